/- A partition and a Log that looks on: what each call leaves. -/
import Derived.Test.YtnnljdnaipjoiaaQv
import Derived.Test.YtnnljdnaipjoiaaQk
import Derived.Test.YtnnljdnaipjoiaaFr
namespace Go.Proofs.Ytnnljdnaipjoiaa
set_option linter.unusedSimpArgs false
set_option linter.unusedVariables false
open Go.RowKit Go.ChangeShapes Go.WideShapes Go.ChangeAt
def In64 (x : Int) : Prop := -9223372036854775808 ≤ x ∧ x ≤ 9223372036854775807
/-- Ints in memory. -/
def IRow (w : World) (a : Option Addr) (ns : List Int) : Prop := ∀ i, i < ns.length → ∃ b off, a = some ⟨b, off, none⟩ ∧ w.cell? ⟨b, off + i, none⟩ = some (.int .i64 (ns.getD i 0))
theorem IRow.below {w w' : World} {a : Option Addr} {ns : List Int} (h : IRow w a ns) (hb : Below w.heap.size w w') : IRow w' a ns := by
  intro i hi
  obtain ⟨b, off, e, hc⟩ := h i hi
  exact ⟨b, off, e, (hb.cell (World.block_lt_of_cell? _ _ hc)).trans hc⟩
structure ICame (W : World) (a : Option Addr) (cap : Nat) (l : List Int) : Prop where
  row : IRow W a l
  in64 : ∀ i, i < l.length → In64 (l.getD i 0)
theorem ints_of {H : Type} {enc : TypeId × Value → H} {W : World} {base fuel : Nat} {sp : Nat → Bool} {held : Bool} {a0 : Option Addr} {L cap0 : Nat} {x : DataW H × List MemPlace}
    (h : DataW.trod enc Try.prog W base sp held fuel 37 [.slice a0 L cap0] = some x) : ∃ l : List Int, L = l.length ∧ ICame W a0 cap0 l := by
  rcases Go.Deep.open_slice1 Try.underlying37 cells3 h with ⟨hcs, _⟩ | ⟨ad, len, cap, m, n, V, D, Pl, hcs, _, hl, hm, hmm, hd, hx⟩
  · simp at hcs
    obtain ⟨rfl, rfl, rfl⟩ := hcs
    exact ⟨[], rfl, fun i hi => by simp at hi, fun i hi => by simp at hi⟩
  · simp at hcs
    obtain ⟨rfl, rfl, rfl⟩ := hcs
    have hlm : L ≤ m := by rw [hmm]; split <;> omega
    have each : ∀ i, i < L → ∃ s : Int, (∃ g off, some ad = some ⟨g, off, none⟩ ∧ W.cell? ⟨g, off + i, none⟩ = some (.int .i64 s)) ∧ In64 s := by
      intro i hi
      obtain ⟨h1, h2⟩ := hx i (by omega)
      obtain ⟨b, off, spot⟩ := ad
      have hsp : spot = none := by
        have h0 := (hx 0 (by omega)).1
        simpa [Addr.add] using World.cell?_spot h0
      subst hsp
      obtain ⟨s, q, _, w1⟩ := DataW.trod_int Try.underlying3 h2
      simp at q
      rw [q, Addr.add_lit] at h1
      exact ⟨s, ⟨b, off, rfl, h1⟩, bd64 w1⟩
    obtain ⟨l, hll, hr⟩ := list_of 0 _ L each
    exact ⟨l, hll.symm, fun i hi => (hr i (by omega)).1, fun i hi => (hr i (by omega)).2⟩
theorem round_i (k x : Int) (w : World) (hk : In64 k) (h1 : 1 ≤ x) (h2 : x ≤ 1000000) :
    Calls Try.prog 14 #[.int .i64 k, .int .i64 x] w fun e w' => (∃ q : Int, 0 ≤ q ∧ q < x ∧ e = .returned (.int .i64 q)) ∧ w' = w := by
  obtain ⟨n, rfl⟩ := Int.eq_ofNat_of_zero_le (show 0 ≤ x by omega)
  refine (round_any k n w hk.1 hk.2 (by omega) (by omega)).mono fun e w' ⟨q1, q2⟩ => ⟨⟨_, by omega, ?_, q1⟩, q2⟩
  have e1 := Int.emod_nonneg k (show (n : Int) ≠ 0 by omega)
  have e2 := Int.emod_lt_of_pos k (show 0 < (n : Int) by omega)
  omega
theorem tdiv_in {x : Int} (h : In64 x) (d : Int) (hd : 0 ≤ d) : In64 (x.tdiv d) := by
  have h1 := Int.natAbs_tdiv_le_natAbs x d
  unfold In64 at *
  by_cases e : x = -9223372036854775808
  · subst e
    have h2 : (-9223372036854775808 : Int).tdiv d = -((9223372036854775808 : Int).tdiv d) := Int.neg_tdiv ..
    have h3 : 0 ≤ (9223372036854775808 : Int).tdiv d := Int.tdiv_nonneg (by omega) hd
    omega
  · omega
/-- A partition at p, a Log at pc that has seen some of it, ahead of round i. -/
def RInv (w : World) (p pc : Nat) (seg : Int) (i : Nat) (y : World) : Prop := ∃ (L : List Sg) (R : Int → Rc) (Q : Int → Int) (N st : Int) (S : LS) (r off cap : Nat),
  PIs w.heap.size p seg r off cap L y ∧ AwK w.heap.size w pc S y ∧ Good R Q N i L ∧ Kn R Q st N i S ∧ st ≤ (L.getD 0 sgz).base ∧ L.length ≤ i + 1 ∧ (lastS L).ss.length ≤ i
theorem RInv.below {w y z : World} {p pc : Nat} {seg : Int} {i : Nat} (h : RInv w p pc seg i y) (hb : Below y.heap.size y z) : RInv w p pc seg i z := by
  obtain ⟨L, R, Q, N, st, S, r, off, cap, h1, h2, h3⟩ := h
  exact ⟨L, R, Q, N, st, S, r, off, cap, h1.below hb, h2.below hb, h3⟩
theorem RInv.bel {w y : World} {p pc : Nat} {seg : Int} {i : Nat} (h : RInv w p pc seg i y) : Below w.heap.size w y := by
  obtain ⟨L, R, Q, N, st, S, r, off, cap, h1, h2, h3⟩ := h
  exact h2.bel
theorem RInv.ret {w y : World} {p pc : Nat} {seg : Int} {i : Nat} (h : RInv w p pc seg i y) (now : Int) : Calls Try.prog 15 #[.pointer (some ⟨p, 0, none⟩), .int .i64 now] y fun e z => BoolE e ∧ RInv w p pc seg (i + 1) z := by
  obtain ⟨L, R, Q, N, st, S, r, off, cap, h1, h2, hg, hk, hs, hl, hf⟩ := h
  refine (retain_any h1 now).mono fun e z ⟨q1, q2, q3⟩ => ⟨q1, ?_⟩
  have hk2 : Kn R Q st N ((i + 1 : Nat) : Int) S := hk.on (Int.le_refl _) (Int.le_refl _) (by omega) (fun _ _ => rfl) (fun _ _ => rfl)
  rcases q3 with q3 | ⟨h22, q3⟩
  · exact ⟨L, R, Q, N, st, S, r, off, cap, q3, h2.pk q2 (Nat.le_refl _), by have := hg.same; simpa using this, hk2, hs, by omega, by omega⟩
  · refine ⟨L.tail, R, Q, N, st, S, r, off + 1, cap - 1, q3, h2.pk q2 (Nat.le_refl _), by have := hg.tail h22; simpa using this, hk2, ?_, by rw [List.length_tail]; omega, by rw [last_tail L h22]; omega⟩
    rw [tail_get]
    have := hg.bases 0 1 (by omega) (by omega)
    simp only [Nat.zero_add]
    omega
theorem RInv.comp {w y : World} {p pc : Nat} {seg : Int} {i : Nat} (h : RInv w p pc seg i y) (now : Int) : Calls Try.prog 16 #[.pointer (some ⟨p, 0, none⟩), .int .i64 now] y fun e z => BoolE e ∧ RInv w p pc seg (i + 1) z := by
  obtain ⟨L, R, Q, N, st, S, r, off, cap, h1, h2, hg, hk, hs, hl, hf⟩ := h
  refine (compact_any h1 now).mono fun e z ⟨q1, q2, q3⟩ => ⟨q1, ?_⟩
  have hk2 : Kn R Q st N ((i + 1 : Nat) : Int) S := hk.on (Int.le_refl _) (Int.le_refl _) (by omega) (fun _ _ => rfl) (fun _ _ => rfl)
  rcases q3 with q3 | ⟨k, s, hk1, hb, ht, q3⟩
  · exact ⟨L, R, Q, N, st, S, r, off, cap, q3, h2.pk q2 (Nat.le_refl _), by have := hg.same; simpa using this, hk2, hs, by omega, by omega⟩
  · refine ⟨L.set k s, R, Q, N, st, S, r, off, cap, q3, h2.pk q2 (Nat.le_refl _), by have := hg.put k s hk1 hb ht; simpa using this, hk2, ?_, by rw [List.length_set]; omega, by rw [last_set L k s hk1]; omega⟩
    rw [set_get L k 0 s (by omega)]
    by_cases e : 0 = k
    · rw [if_pos e, hb, ← e]; exact hs
    · rw [if_neg e]; exact hs
/-- Two numbers. -/
def TupE (e : Ending) : Prop := ∃ x q : Int, e = .returned (.tuple #[.int .i64 x, .int .i64 q])
theorem RInv.app {w y : World} {p pc : Nat} {seg : Int} {i : Nat} (h : RInv w p pc seg i y) (hi : i < 61) (a : Option Addr) (c : Nat) (rs : List Rc) (hr : RRow y a rs) (h2l : rs.length = 2) (ho : ∀ k, k < rs.length → (rs.getD k rz).k.size ≤ 20000 ∧ (rs.getD k rz).v.size ≤ 20000) :
    Calls Try.prog 17 #[.pointer (some ⟨p, 0, none⟩), .int .i64 1, .int .i64 (i : Int), .slice a rs.length c] y fun e z => TupE e ∧ RInv w p pc seg (i + 1) z := by
  obtain ⟨L, R, Q, N, st, S, r, off, cap, h1, h2, hg, hk, hs, hl, hf⟩ := h
  refine (append_any h1 1 (i : Int) a c rs hr (by omega) (by omega) (hg.tame (by omega)) (by omega) (by omega)).mono fun e z ⟨q1, q2, q3⟩ => ⟨q1, ?_⟩
  rcases q3 with q3 | ⟨r', off', cap', L', hgr, q3⟩
  · exact ⟨L, R, Q, N, st, S, r, off, cap, q3, h2.pk q2 (Nat.le_refl _), by have := hg.same; simpa using this, hk.on (Int.le_refl _) (Int.le_refl _) (by omega) (fun _ _ => rfl) (fun _ _ => rfl), hs, by omega, by omega⟩
  · rw [hg.nx] at hgr
    have hgr2 : Grown L N ⟨N, 2, 1, i, numL rs⟩ L' := by
      have e2 : ((rs.length : Nat) : Int) = 2 := by rw [h2l]; rfl
      rw [e2] at hgr
      exact hgr
    obtain ⟨R', Q', g1, g2, g3, g4, g5, g6⟩ := hg.more h1.pos h2l ho hgr2
    exact ⟨L', R', Q', N + 2, st, S, r', off', cap', q3, h2.pk q2 (Nat.le_refl _), by simpa using g3, hk.on (Int.le_refl _) (by omega) (by omega) g1 g2, by rw [g4]; exact hs, by omega, by omega⟩
/-- What Start, Next, Read and the Log tell then. -/
structure RUse (w : World) (p pc : Nat) (seg : Int) (i : Nat) (y : World) (s0 N : Int) : Prop where
  lo : 0 ≤ s0
  mid : s0 ≤ N
  hi : N ≤ 2 * i
  start : ∀ z, Below y.heap.size y z → Calls Try.prog 19 #[.pointer (some ⟨p, 0, none⟩)] z fun e z' => e = .returned (.int .i64 s0) ∧ z' = z
  next : ∀ z, Below y.heap.size y z → Calls Try.prog 20 #[.pointer (some ⟨p, 0, none⟩)] z fun e z' => e = .returned (.int .i64 N) ∧ Below z.heap.size z z'
  read : ∀ (fr : Int) z, s0 ≤ fr → fr ≤ N → Below y.heap.size y z → Calls Try.prog 21 #[.pointer (some ⟨p, 0, none⟩), .int .i64 fr, .int .i64 400] z fun e z1 => ∃ a n c, e = .returned (.tuple #[.slice a n c, .int .i64 0]) ∧ Below z.heap.size z z1 ∧
    ∀ z2, Below z1.heap.size z1 z2 → Calls Try.prog 11 #[.pointer (some ⟨pc, 0, none⟩), .string ⟨#[116]⟩, .int .i64 0, .int .i64 s0, .int .i64 N, .int .i64 fr, .slice a n c] z2 fun e z3 => e = .returned (.int .i64 0) ∧ RInv w p pc seg i z3
theorem RInv.use {w y : World} {p pc : Nat} {seg : Int} {i : Nat} (h : RInv w p pc seg i y) (hi : i < 100) : ∃ s0 N, RUse w p pc seg i y s0 N := by
  obtain ⟨L, R, Q, N, st, S, r, off, cap, h1, h2, hg, hk, hs, hl, hf⟩ := h
  have ht := hg.tame (by omega)
  have hb0 := hg.top 0 h1.pos
  refine ⟨(L.getD 0 sgz).base, N, hb0.1, hb0.2, by have := hg.N1; omega, fun z hb => start_any (h1.below hb), fun z hb => ?_, fun fr z f1 f2 hb => ?_⟩
  · have h5 := next_any (h1.below hb) (fun k hk => ht _ (last_mem h1.pos hk))
    rw [hg.nx] at h5
    exact h5
  · refine (read_any (h1.below hb) ht fr f1 (by rw [hg.nx]; exact f2)).mono fun e z1 ⟨a, acc, c, q1, q2, q3, q4, q5⟩ => ⟨a, acc.length, c, q1, q5, fun z2 hb2 => ?_⟩
    have hyz2 : Below y.heap.size y z2 := (hb.trans (q5.mono hb.size)).trans (hb2.mono (Nat.le_trans hb.size q5.size))
    have hin : BIn z2 a acc := ⟨q2.below hb2, fun k hk => by
      have hb5 := (h1.below hyz2).bats _ (q3.subset (bget_mem hk))
      exact ⟨hb5.row.1, by have := hb5.len; unfold maxLen; omega⟩, fun k hk => hg.ok (by omega) _ (q3.subset (bget_mem hk)), Nat.le_trans q3.length_le (Nat.le_trans h1.flat_len (by unfold maxLen; omega))⟩
    obtain ⟨f3, f4⟩ := saw_fine (p := (⟨#[116]⟩, 0)) hg (hk.on hs (Int.le_refl _) (Int.le_refl _) (fun _ _ => rfl) (fun _ _ => rfl)) f1 hb0.2 q3 q4
    refine (awk_sawT (h2.below hyz2) ⟨#[116]⟩ 0 (L.getD 0 sgz).base N fr a c acc hin (by decide)).mono fun e z3 ⟨p1, p2, p3⟩ => ⟨by rw [p1, f3], ?_⟩
    exact ⟨L, R, Q, N, (L.getD 0 sgz).base, _, r, off, cap, (h1.below hyz2).tk p3, p2, hg, f4, Int.le_refl _, hl, hf⟩
end Go.Proofs.Ytnnljdnaipjoiaa
