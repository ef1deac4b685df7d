/- The walk of DevicePlay. -/
import Derived.Test.YtlieckifnkngnaaDs
namespace Go.Proofs.Ytlieckifnkngnaa
set_option linter.unusedSimpArgs false
set_option linter.unusedVariables false
open Go.RowKit Go.MapKept
structure Stp where
  k : Int
  a : Int
  b : Int
  ad : Option Addr
  l : List Int
  cap : Nat
structure StpAt (w : World) (b off : Nat) (s : Stp) : Prop where
  c0 : w.cell? ⟨b, off, none⟩ = some (.int .i64 s.k)
  c1 : w.cell? ⟨b, off + 1, none⟩ = some (.int .i64 s.a)
  c2 : w.cell? ⟨b, off + 2, none⟩ = some (.int .i64 s.b)
  c3 : w.cell? ⟨b, off + 3, none⟩ = some (.slice s.ad s.l.length s.cap)
  row : RowI w s.ad s.l
  len : s.l.length ≤ 9223372036854775807
  lo : -9223372036854775808 ≤ s.a
  hi : s.a ≤ 9223372036854775807
def StpsAt (w : World) (a0 : Option Addr) (n : Nat) (S : Nat → Stp) : Prop := ∀ i, i < n → ∃ b off, a0 = some ⟨b, off, none⟩ ∧ StpAt w b (off + i * 4) (S i)
theorem StpAt.below {w w' : World} {b off : Nat} {s : Stp} (h : StpAt w b off s) (hb : Below w.heap.size w w') : StpAt w' b off s := by
  have hlt : b < w.heap.size := World.block_lt_of_cell? w ⟨b, off, none⟩ h.c0
  have e : ∀ i, w'.cell? ⟨b, i, none⟩ = w.cell? ⟨b, i, none⟩ := fun i => cell_blk (hb.block b hlt)
  exact ⟨(e _).trans h.c0, (e _).trans h.c1, (e _).trans h.c2, (e _).trans h.c3, h.row.below hb, h.len, h.lo, h.hi⟩
theorem does_any {B : Nat} {w : World} {p q : Nat} {d : Dv} (h : Two B w p d q d []) (s : Stp) (hl : RowI w s.ad s.l) (hll : s.l.length ≤ 9223372036854775807) (h1 : -9223372036854775808 ≤ s.a) (h2 : s.a ≤ 9223372036854775807) (ho : d.ops < 1000) :
    Calls Try.prog 15 #[.pointer (some ⟨p, 0, none⟩), .pointer (some ⟨q, 0, none⟩), .agg #[.int .i64 s.k, .int .i64 s.a, .int .i64 s.b, .slice s.ad s.l.length s.cap]] w (DoesPost B w d) := by
  obtain ⟨k, a, b, ad, l, cap⟩ := s
  simp only at hl hll h1 h2 ⊢
  by_cases hk : k < 1 ∨ 6 < k
  · exact does_0 h k a b _ hk ho
  · rcases (show k = 1 ∨ k = 2 ∨ k = 3 ∨ k = 4 ∨ k = 5 ∨ k = 6 by omega) with rfl | rfl | rfl | rfl | rfl | rfl
    · exact does_1 h a b _ ho
    · exact does_2 h a b _ ho
    · exact does_3 h a b _ h2 ho
    · exact does_4 h a b ad l cap hl hll ho
    · exact does_5 h a b _ ho
    · exact does_6 h a b _ h1 h2 ho
def InPost (n : Int) (L : Nat) (w : World) (e : Ending) (w' : World) : Prop := ∃ b, e = .returned (.bool b) ∧ w' = w ∧ (b = true → n ≤ 40 ∧ L ≤ 80)
set_option maxRecDepth 100000 in
set_option maxHeartbeats 2000000 in
theorem in_any (n : Int) (a0 : Option Addr) (L cap0 : Nat) (S : Nat → Stp) (w : World) (hS : StpsAt w a0 L S) (hL : L ≤ 9223372036854775807) :
    Calls Try.prog 11 #[.int .i64 n, .slice a0 L cap0] w (InPost n L w) := by
  have hLI : (L : Int) ≤ 9223372036854775807 := by omega
  go_enter Try.func11, Try.ntmps11
  go_wp2
  go_loopw [5, 6] (fun a i wr => ∃ (k : Nat) (z : Int), k ≤ L ∧ a = .int .i64 z ∧ i = .int .i64 (k : Int) ∧ wr = w) (fun _ i _ => L - (iof i).toNat)
  case atStart => exact ⟨0, 0, by omega, rfl, rfl, rfl⟩
  case round =>
    obtain ⟨k, z, hk, rfl, rfl, hw⟩ := hrel
    subst wr
    by_cases hkL : k < L
    · have hkI : (k : Int) < (L : Int) := by omega
      obtain ⟨b, off, rfl, hs⟩ := hS k hkL
      have c3 := hs.c3
      have hl1 : ((S k).l.length : Int) ≤ 9223372036854775807 := by have := hs.len; omega
      clear hs
      go_wp2
      exact ⟨⟨k + 1, _, by omega, rfl, by go_num, trivial⟩, by simp [iof]; omega⟩
    · have hkI : ¬ (k : Int) < (L : Int) := by omega
      by_cases h1 : n ≤ 40
      · by_cases h2 : L ≤ 80
        · have h2I : (L : Int) ≤ 80 := by omega
          by_cases h3 : z ≤ 500
          · go_wp2
            go_ret
            exact ⟨_, rfl, rfl, fun _ => ⟨h1, h2⟩⟩
          · go_wp2
            go_ret
            exact ⟨_, rfl, rfl, fun _ => ⟨h1, h2⟩⟩
        · have h2I : ¬ (L : Int) ≤ 80 := by omega
          go_wp2
          go_ret
          exact ⟨_, rfl, rfl, fun h => by simp at h⟩
      · go_wp2
        go_ret
        exact ⟨_, rfl, rfl, fun h => by simp at h⟩
set_option maxRecDepth 100000 in
set_option maxHeartbeats 4000000 in
theorem devicePlay_walk (n : Int) (a0 : Option Addr) (L cap0 : Nat) (S : Nat → Stp) (w : World) (_hn : (Lit.int .i64 n).wf = true) (hS : StpsAt w a0 L S) (hL : L ≤ 9223372036854775807) :
    Calls Try.prog 3 #[.int .i64 n, .slice a0 L cap0] w fun e w' => e = .returned (.bool true) ∧ Below w.heap.size w w' := by
  have K11 : Hid _ := in_any n a0 L cap0 S w hS hL
  by_cases hin : n ≤ 40 ∧ L ≤ 80
  · obtain ⟨hn, hL8⟩ := hin
    have hLI : (L : Int) ≤ 80 := by omega
    by_cases hn1 : n < 1
    · have K13 : Hid _ := new_bad n w (.inl hn1)
      have K14 : Hid _ := refNew_bad n w (.inl hn1)
      go_enter Try.func3, Try.ntmps3
      go_wp2_with (first
        | (go_at_call 11; refine Calls.mono K11.out ?_; rintro e w1 ⟨b, rfl, hw, _⟩; subst w1)
        | (go_at_call 12; refine (awake_any _).mono ?_; rintro e w2 ⟨rfl, hb⟩)
        | (go_at_call 13; refine Calls.mono K13.out ?_; rintro e w1 ⟨rfl, hw⟩; subst w1)
        | (go_at_call 14; refine Calls.mono K14.out ?_; rintro e w1 ⟨rfl, hw⟩; subst w1))
      all_goals (go_ret; exact ⟨rfl, hb⟩)
    · obtain ⟨m, rfl⟩ : ∃ m : Nat, n = (m : Int) := ⟨n.toNat, by omega⟩
      have K13 : Hid (Calls Try.prog 13 #[.int .i64 (m : Int)] w fun e w' => ∃ p, e = .returned (.tuple #[.pointer (some ⟨p, 0, none⟩), .int .i64 0]) ∧ Fam w.heap.size w' [] [(p, fresh m fun _ => zeros)] ∧ Below w.heap.size w w') := famNew (B := w.heap.size) (G := []) (l := []) trivial (by simp) (Nat.le_refl _) m (by omega) (by omega)
      have K14 : Hid (∀ p w1, Fam w.heap.size w1 [] [(p, fresh m fun _ => zeros)] → Below w.heap.size w w1 → Calls Try.prog 14 #[.int .i64 (m : Int)] w1 fun e w' => ∃ q, e = .returned (.tuple #[.pointer (some ⟨q, 0, none⟩), .int .i64 0]) ∧ Two w.heap.size w' p (fresh m fun _ => zeros) q (fresh m fun _ => zeros) [] ∧ Below w.heap.size w w') := fun p w1 hF hb => by
        refine (refNew_any m (by omega) (by omega) w1).mono ?_
        rintro e w' ⟨q, gB, cB, gP, cP, bs, ps, rs, G, rfl, hR, hb2⟩
        have z1 := hb.size
        have z2 := hb2.size
        exact ⟨q, rfl, ⟨gB, cB, gP, cP, bs, ps, rs, G, -1, (hF.mono (H := [] ++ G) fun x hx => .inr (hR.glt x (by simpa using hx)).1).below hb2, hR.mono z1, by omega, by simp⟩, hb.trans (hb2.mono z1)⟩
      have HFO : Hid ((fresh m fun _ => zeros).ops = 0) := rfl
      obtain ⟨d0, HD0⟩ : ∃ d0, Hid ((fresh m fun _ => zeros) = d0) := ⟨_, rfl⟩
      rw [HD0.out] at K13 K14 HFO
      clear HD0
      go_enter Try.func3, Try.ntmps3
      go_wp2_with (first
        | (go_at_call 11; refine Calls.mono K11.out ?_; rintro e w1 ⟨b, rfl, hw, _⟩; subst w1)
        | (go_at_call 12; refine (awake_any _).mono ?_; rintro e w2 ⟨rfl, hb⟩)
        | (go_at_call 13; refine Calls.mono K13.out ?_; rintro e w1 ⟨p, rfl, hF, hb1⟩)
        | (go_at_call 14; refine (K14.out _ _ hF hb1).mono ?_; rintro e w2 ⟨q, rfl, hT, hb2⟩))
      · go_ret; exact ⟨rfl, hb⟩
      clear hF hb1 K13 K14
      go_loopw [5, 7, 9] (fun a b i wr => ∃ (k p q : Nat) (d : Dv), k ≤ L ∧ a = .pointer (some ⟨p, 0, none⟩) ∧ b = .pointer (some ⟨q, 0, none⟩) ∧ i = .int .i64 (k : Int) ∧ Two w.heap.size wr p d q d [] ∧ d.ops ≤ k ∧ Below w.heap.size w wr) (fun _ _ i _ => L - (iof i).toNat)
      case atStart => exact ⟨0, p, q, d0, by omega, rfl, rfl, rfl, hT, by rw [HFO.out]; omega, hb2⟩
      case round =>
        clear hT hb2
        obtain ⟨k, p, q, d, hk, rfl, rfl, rfl, hT, hops, hbel⟩ := hrel
        by_cases hkL : k < L
        · have hkI : (k : Int) < (L : Int) := by omega
          obtain ⟨b0, off, rfl, hs0⟩ := hS k hkL
          have hs := hs0.below hbel
          have c0 := hs.c0
          have c1 := hs.c1
          have c2 := hs.c2
          have c3 := hs.c3
          have K15 : Hid (Calls Try.prog 15 #[.pointer (some ⟨p, 0, none⟩), .pointer (some ⟨q, 0, none⟩), .agg #[.int .i64 (S k).k, .int .i64 (S k).a, .int .i64 (S k).b, .slice (S k).ad (S k).l.length (S k).cap]] wr (DoesPost w.heap.size wr d)) := does_any hT (S k) hs.row hs.len hs.lo hs.hi (by omega)
          clear hs hs0 hT
          go_wp2_with (first
            | (go_at_call 15; refine Calls.mono K15.out ?_; rintro e w3 ⟨p', q', d', rfl, hT3, ho3, hb3⟩)
            | (go_at_call 16; refine (same_any hT3).mono ?_; rintro e w4 ⟨rfl, hT4, hb4⟩))
          exact ⟨⟨k + 1, p', q', d', by omega, rfl, rfl, by go_num, hT4, by omega, (hbel.trans hb3).trans (hb4.mono (two_base hT3))⟩, by simp [iof]; omega⟩
        · have hkI : ¬ (k : Int) < (L : Int) := by omega
          have hsz := hbel.size
          clear hT
          go_wp2_with (go_at_call 12; refine (awake_any _).mono ?_; rintro e w5 ⟨rfl, hb5⟩)
          go_ret
          exact ⟨rfl, hbel.trans (hb5.mono hsz)⟩
  · go_enter Try.func3, Try.ntmps3
    go_wp2_with (first
      | (go_at_call 11; refine Calls.mono K11.out ?_; rintro e w1 ⟨b, rfl, hw, hbt⟩; subst w1; obtain rfl : b = false := (by cases b; rfl; exact absurd (hbt rfl) hin))
      | (go_at_call 12; refine (awake_any _).mono ?_; rintro e w2 ⟨rfl, hb⟩))
    go_ret
    exact ⟨rfl, hb⟩
end Go.Proofs.Ytlieckifnkngnaa
