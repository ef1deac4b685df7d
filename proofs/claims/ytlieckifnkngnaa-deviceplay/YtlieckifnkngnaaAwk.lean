/- awake is true. -/
import Derived.Test.YtlieckifnkngnaaUse
namespace Go.Proofs.Ytlieckifnkngnaa
set_option linter.unusedSimpArgs false
set_option linter.unusedVariables false
open Go.RowKit Go.MapKept
theorem wrote_ok {d : Dv} {k : Nat} {c : List Nat} (hon : d.on = true) (hk : k < d.n) (hc : c.length = 512) : d.wrote (k : Int) c = d.tick.add k c := by
  have : hasB d.n (k : Int) = true := by simp [hasB]; omega
  simp [Dv.wrote, hon, this, hc]
theorem wcode_ok {d : Dv} {k : Nat} (hon : d.on = true) (hk : k < d.n) : d.wcode (k : Int) 512 = 0 := by
  have : hasB d.n (k : Int) = true := by simp [hasB]; omega
  simp [Dv.wcode, hon, this]
def aw0 : Dv := fresh 2 fun _ => zeros
def aw1 : Dv := aw0.tick.add 0 (bb 1)
def aw2 : Dv := aw1.tick.flush
def aw3 : Dv := aw2.tick.add 0 (bb 2)
theorem aw1_is : aw0.wrote 0 (bb 1) = aw1 := wrote_ok (k := 0) rfl (by decide) (bb_len 1)
theorem aw2_is : aw1.flushed = aw2 := by
  have : aw1.on = true := rfl
  simp [Dv.flushed, this, aw2]
theorem aw3_is : aw2.wrote 0 (bb 2) = aw3 := wrote_ok (k := 0) rfl (by decide) (bb_len 2)
theorem aw_c0 : (aw3.crash [0]).cur 0 = bb 1 := rfl
theorem aw_c1 : (aw3.crash [1]).cur 0 = bb 2 := rfl
theorem rowI_one (w : World) (z : Int) (h1 : -9223372036854775808 ≤ z) (h2 : z ≤ 9223372036854775807) : RowI (w.alloc (.cells #[.int .i64 z] 3)) (some ⟨w.heap.size, 0, none⟩) [z] := by
  intro i hi
  have : i = 0 := by simp at hi; omega
  subst this
  refine ⟨w.heap.size, 0, rfl, ?_, h1, h2⟩
  rw [cell_of_row _ _ _ _ _ _ (heap_alloc_new w _)]
  rfl
theorem eqI (x : Int) : (x == x) = true := by simp
theorem below_drewN {w w' : World} (h : ∃ n, w' = w.drewN n) : Below w.heap.size w w' := by
  obtain ⟨n, rfl⟩ := h
  exact ⟨rfl, rfl, rfl, Nat.le_refl _, fun _ _ => rfl⟩
/-- Two rows, each filling its block: alike, or not. -/
theorem alike_any {w : World} {g h t s : Nat} {c e : List Nat} (f1 : Full w g t c) (f2 : Full w h s e) (hc : c.length = 512) (hb : ∀ i, c.getD i 0 < 256) (he : e.length = 512) (hb2 : ∀ i, e.getD i 0 < 256) :
    Calls Try.prog 19 #[.slice (some ⟨g, 0, none⟩) 512 512, .slice (some ⟨h, 0, none⟩) 512 512] w fun x w' => x = .returned (.bool (decide (c = e))) ∧ Below w.heap.size w w' := by
  have := bytes_any (some ⟨g, 0, none⟩) 512 c (some ⟨h, 0, none⟩) 512 e w (f1.row hb) (f2.row hb2) (by rw [hc]; decide) (by rw [he]; decide)
  rw [hc, he] at this
  refine this.mono ?_
  rintro x w' ⟨rfl, hn⟩
  exact ⟨rfl, below_drewN hn⟩
theorem alike_yes {w : World} {g h t s : Nat} {c : List Nat} (f1 : Full w g t c) (f2 : Full w h s c) (hc : c.length = 512) (hb : ∀ i, c.getD i 0 < 256) :
    Calls Try.prog 19 #[.slice (some ⟨g, 0, none⟩) 512 512, .slice (some ⟨h, 0, none⟩) 512 512] w fun x w' => x = .returned (.bool true) ∧ Below w.heap.size w w' := by
  refine (alike_any f1 f2 hc hb hc hb).mono ?_
  rintro x w' ⟨rfl, hn⟩
  exact ⟨by simp, hn⟩
set_option maxRecDepth 100000 in
set_option maxHeartbeats 2000000 in
theorem awake_any (w : World) : Calls Try.prog 12 #[] w fun e w' => e = .returned (.bool true) ∧ Below w.heap.size w w' := by
  have hwc0 : aw0.wcode 0 (bb 1).length = 0 := by rw [bb_len]; exact wcode_ok (k := 0) rfl (by decide)
  have hwc2 : aw2.wcode 0 (bb 2).length = 0 := by rw [bb_len]; exact wcode_ok (k := 0) rfl (by decide)
  have K13 : Hid (Calls Try.prog 13 #[.int .i64 2] w fun e w' => ∃ p, e = .returned (.tuple #[.pointer (some ⟨p, 0, none⟩), .int .i64 0]) ∧ Sole w.heap.size w w' p aw0) := by
    refine (newD 2 w (by omega) (by omega)).mono ?_
    rintro e w' ⟨p, F, rfl, hd, hF, hb⟩
    exact ⟨p, rfl, ⟨F, hd, hF⟩, hb, hb.size⟩
  have K22a : Hid (∀ w1 p g, Sole w.heap.size w w1 p aw0 → Full w1 g 5 (bb 1) → Calls Try.prog 22 #[.pointer (some ⟨p, 0, none⟩), .int .i64 0, .slice (some ⟨g, 0, none⟩) 512 512] w1 fun e w' => e = .returned (.int .i64 0) ∧ Sole w.heap.size w w' p aw1) := fun w1 p g h hf => by
    have := soleW h 0 g (bb 1) hf (bb_lt 1) (by rw [bb_len]; omega) (by decide)
    rw [hwc0, bb_len, aw1_is] at this
    exact this
  have K22b : Hid (∀ w1 p g, Sole w.heap.size w w1 p aw2 → Full w1 g 5 (bb 2) → Calls Try.prog 22 #[.pointer (some ⟨p, 0, none⟩), .int .i64 0, .slice (some ⟨g, 0, none⟩) 512 512] w1 fun e w' => e = .returned (.int .i64 0) ∧ Sole w.heap.size w w' p aw3) := fun w1 p g h hf => by
    have := soleW h 0 g (bb 2) hf (bb_lt 2) (by rw [bb_len]; omega) (by decide)
    rw [hwc2, bb_len, aw3_is] at this
    exact this
  have K23 : Hid (∀ w1 p, Sole w.heap.size w w1 p aw1 → Calls Try.prog 23 #[.pointer (some ⟨p, 0, none⟩)] w1 fun e w' => e = .returned (.int .i64 0) ∧ Sole w.heap.size w w' p aw2) := fun w1 p h => by
    have := soleF h (by decide)
    rw [aw2_is] at this
    exact this
  have K25 : Hid (∀ w1 p z, Sole w.heap.size w w1 p aw3 → -9223372036854775808 ≤ z → z ≤ 9223372036854775807 → Calls Try.prog 25 #[.pointer (some ⟨p, 0, none⟩), .slice (some ⟨w1.heap.size, 0, none⟩) 1 1] (w1.alloc (.cells #[.int .i64 z] 3)) fun e w' => ∃ c F', e = .returned (.pointer (some ⟨c, 0, none⟩)) ∧ Dev w' c F' (aw3.crash [z]) ∧ Sole w.heap.size w w' p aw3 ∧ Below w1.heap.size w1 w') := fun w1 p z h z1 z2 => by
    have hb : Below w1.heap.size w1 (w1.alloc (.cells #[.int .i64 z] 3)) := (Below.refl _ _).alloc (Nat.le_refl _) _
    have s := h.below hb
    obtain ⟨⟨F, hd, hF⟩, h1, h2⟩ := s
    refine (crashD hd _ [z] 1 (rowI_one w1 z z1 z2) (by simp)).mono ?_
    rintro e w' ⟨c, F', rfl, hc, hf, hb2⟩
    have hb3 : Below w1.heap.size w1 w' := hb.trans (hb2.mono hb.size)
    exact ⟨c, F', rfl, hc, h.below hb3, hb3⟩
  have K18a : Hid (∀ w1 c F', Dev w1 c F' (aw3.crash [0]) → Calls Try.prog 18 #[.pointer (some ⟨c, 0, none⟩), .int .i64 0] w1 fun e w' => ∃ g, e = .returned (.tuple #[.slice (some ⟨g, 0, none⟩) 512 512, .int .i64 0]) ∧ Full w' g 75 (bb 1) ∧ w1.heap.size ≤ g ∧ Below w1.heap.size w1 w') := fun w1 c F' h => readD h 0 (by decide)
  have K18b : Hid (∀ w1 c F', Dev w1 c F' (aw3.crash [1]) → Calls Try.prog 18 #[.pointer (some ⟨c, 0, none⟩), .int .i64 0] w1 fun e w' => ∃ g, e = .returned (.tuple #[.slice (some ⟨g, 0, none⟩) 512 512, .int .i64 0]) ∧ Full w' g 75 (bb 2) ∧ w1.heap.size ≤ g ∧ Below w1.heap.size w1 w') := fun w1 c F' h => readD h 0 (by decide)
  have K19 : Hid (∀ (w1 : World) (g h t s : Nat) (c : List Nat), c.length = 512 → (∀ i, c.getD i 0 < 256) → Full w1 g t c → Full w1 h s c → Calls Try.prog 19 #[.slice (some ⟨g, 0, none⟩) 512 512, .slice (some ⟨h, 0, none⟩) 512 512] w1 fun e w' => e = .returned (.bool true) ∧ Below w1.heap.size w1 w') := fun w1 g h t s c hc hb f1 f2 => alike_yes f1 f2 hc hb
  have K24 : Hid (∀ w1 p, Sole w.heap.size w w1 p aw3 → Calls Try.prog 24 #[.pointer (some ⟨p, 0, none⟩)] w1 fun e w' => e = .returned (.int .i64 3) ∧ w' = w1) := fun w1 p h => by
    obtain ⟨⟨F, hd, hF⟩, h1, h2⟩ := h
    exact opsD hd
  clear hwc0 hwc2
  go_enter Try.func12, Try.ntmps12
  go_wp2_with (first
    | (go_at_call 13; refine Calls.mono K13.out ?_; rintro e w1 ⟨p, rfl, s0⟩; have tokA : True := trivial)
    | (go_at_call_of 20 (Value.int IntKind.i64 1); have _t := tokA; refine (block_any 1 _).mono ?_; rintro e w2 ⟨g1, rfl, f1, _, b1⟩; have s0 := s0.below b1)
    | (go_at_call 22; refine (K22a.out _ _ _ s0 f1).mono ?_; rintro e w3 ⟨rfl, s1⟩; clear s0 f1)
    | (go_at_call 23; refine (K23.out _ _ s1).mono ?_; rintro e w4 ⟨rfl, s2⟩; clear s1 tokA)
    | (go_at_call_of 20 (Value.int IntKind.i64 2); refine (block_any 2 _).mono ?_; rintro e w5 ⟨g2, rfl, f2, _, b2⟩; have s2 := s2.below b2)
    | (go_at_call 22; refine (K22b.out _ _ _ s2 f2).mono ?_; rintro e w6 ⟨rfl, s3⟩; clear s2 f2))
  go_wp2_with (first
    | (go_at_call 25; refine (K25.out _ _ 0 s3 (by decide) (by decide)).mono ?_; rintro e w7 ⟨c1, F1, rfl, hd1, s4, b7⟩; clear s3)
    | (go_at_call 18; refine (K18a.out _ _ _ hd1).mono ?_; rintro e w8 ⟨ga, rfl, fa, _, b8⟩; have s5 := s4.below b8; clear s4 hd1)
    | (go_at_call 25; refine (K25.out _ _ 1 s5 (by decide) (by decide)).mono ?_; rintro e w9 ⟨c2, F2, rfl, hd2, s6, b9⟩; have fa := fa.below b9; clear s5)
    | (go_at_call 18; refine (K18b.out _ _ _ hd2).mono ?_; rintro e w10 ⟨gb, rfl, fb, _, b10⟩; have fa := fa.below b10; have s7 := s6.below b10; clear s6 hd2)
    | (go_at_call_of 20 (Value.int IntKind.i64 1); refine (block_any 1 _).mono ?_; rintro e w11 ⟨h1, rfl, f1, _, b11⟩; have fa := fa.below b11; have fb := fb.below b11; have s8 := s7.below b11; clear s7)
    | (go_at_call 19; refine (K19.out _ _ _ _ _ _ (bb_len 1) (bb_lt 1) fa f1).mono ?_; rintro e w12 ⟨rfl, b12⟩; have fb := fb.below b12; have s9 := s8.below b12; clear s8 f1 fa)
    | (go_at_call_of 20 (Value.int IntKind.i64 2); refine (block_any 2 _).mono ?_; rintro e w13 ⟨h2, rfl, f2, _, b13⟩; have fb := fb.below b13; have s10 := s9.below b13; clear s9)
    | (go_at_call 19; refine (K19.out _ _ _ _ _ _ (bb_len 2) (bb_lt 2) fb f2).mono ?_; rintro e w14 ⟨rfl, b14⟩; have s11 := s10.below b14; clear s10)
    | (go_at_call 24; refine (K24.out _ _ s11).mono ?_; rintro e w15 ⟨rfl, hw⟩; subst w15))
  go_ret
  exact ⟨rfl, s11.bel⟩
end Go.Proofs.Ytlieckifnkngnaa
