/- The walk of BatchDecodes. -/
import Derived.Test.YtgpeldmplkijlaaDoorZd
namespace Go.Proofs.YtgpeldmplkijlaaDoor
set_option linter.unusedSimpArgs false
set_option linter.unusedVariables false
open Go.RowKit
set_option maxRecDepth 100000 in
theorem decodes_long (a : Option Addr) (cap n : Nat) (w : World) (ht : Tab w) (hn : 8000 < n) :
    Calls Tryd.prog 4 #[.slice a n cap] w fun e w' => e = .returned (.bool true) ∧ Below w.heap.size w w' := by
  have HA : Hid (Calls Tryd.prog 12 #[] w fun e w' => e = .returned (.bool true) ∧ Below w.heap.size w w') := awake_any w ht
  have hnI : (8000 : Int) < (n : Int) := by omega
  go_enter Tryd.func4, Tryd.ntmps4
  go_wp2_with (go_at_call 12; refine Calls.mono HA.out ?_; rintro e w9 ⟨rfl, hb9⟩)
  go_ret
  exact ⟨rfl, hb9⟩
set_option maxHeartbeats 1600000 in
set_option maxRecDepth 100000 in
theorem decodes_in (a : Option Addr) (cap : Nat) (l : List Nat) (w : World) (ht : Tab w) (hr : Row w a l) (hn : l.length ≤ 8000) (b : Ba) (M E : Int) (hl : b.rs.length ≤ maxLen)
    (HD1 : Hid (∀ x, Tab x → Row x a l → Calls Tryd.prog 18 #[.slice a l.length cap] x fun e w' => ∃ a' c', e = .returned (.tuple #[bav b a' c', .int .i64 M, .int .i64 E]) ∧ RRow w' a' b.rs ∧ Below x.heap.size x w'))
    (HD2 : Hid (∀ x, Tab x → Row x a l → Calls Tryd.prog 19 #[.slice a l.length cap] x fun e w' => ∃ a' c', e = .returned (.tuple #[bav b a' c', .int .i64 M, .int .i64 E]) ∧ RRow w' a' b.rs ∧ Below x.heap.size x w')) :
    Calls Tryd.prog 4 #[.slice a l.length cap] w fun e w' => e = .returned (.bool true) ∧ Below w.heap.size w w' := by
  have HA : Hid (∀ x, Tab x → Calls Tryd.prog 12 #[] x fun e w' => e = .returned (.bool true) ∧ Below x.heap.size x w') := fun x h => awake_any x h
  have HSA : Hid (∀ x a' c' a2 c2, RRow x a' b.rs → RRow x a2 b.rs → Calls Tryd.prog 20 #[bav b a' c', bav b a2 c2] x fun e w' => e = .returned (.bool true) ∧ Below x.heap.size x w') := fun x a' c' a2 c2 q1 q2 => same_any b a' c' a2 c2 x q1 q2 hl
  have HROW : Hid (Row w a l) := hr
  have HT : Hid (Tab w) := ht
  have hnI : ¬ (8000 : Int) < (l.length : Int) := by omega
  have hnd : decide ((8000 : Int) < (l.length : Int)) = false := decide_eq_false hnI
  have hM : (M == M) = true := by simp
  have hE : (E == E) = true := by simp
  clear hr ht
  obtain ⟨base, span, prod, seq, rs⟩ := b
  simp only [bav] at *
  go_enter Tryd.func4, Tryd.ntmps4
  go_wp2_with (first
    | (go_at_call 18; refine (HD1.out _ HT.out HROW.out).mono ?_; rintro e w1 ⟨a1, k1, rfl, hr1, hb1⟩; have HB1 : Hid (Below w.heap.size w w1) := hb1; have HR1 : Hid (RRow w1 a1 rs) := hr1; clear hb1 hr1)
    | (go_at_call 19; refine (HD2.out _ (Tab.below HT.out (HB1.out.alloc HB1.out.size _)) (Row.below HROW.out (HB1.out.alloc HB1.out.size _))).mono ?_; rintro e w2 ⟨a2, k2, rfl, hr2, hb2⟩; have HX2 : Hid (BxS w1 (bcells ⟨base, span, prod, seq, rs⟩ a1 k1) w2) := BxS.below (BxS.new w1 _) hb2; have HR2 : Hid (RRow w2 a2 rs) := hr2; have HR12 : Hid (RRow w2 a1 rs) := RRow.below HR1.out HX2.out.bel; have HB2 : Hid (Below w.heap.size w w2) := HB1.out.trans (HX2.out.bel.mono HB1.out.size); obtain ⟨c0, c1, c2, c3, c4, cz⟩ := BxS.cells HX2.out; simp only at c0 c1 c2 c3 c4; clear hb2 hr2)
    | (go_at_call 20; refine (HSA.out _ _ _ _ _ (RRow.below HR12.out (below_box _)) (RRow.below HR2.out (below_box _))).mono ?_; rintro e w3 ⟨rfl, hb3⟩; have HB3 : Hid (Below w.heap.size w w3) := (HB2.out.alloc HB2.out.size _).trans (hb3.mono (by have := HB2.out.size; simp; omega)); clear hb3 c0 c1 c2 c3 c4 cz)
    | (go_at_call 12; refine (HA.out _ (Tab.below HT.out HB3.out)).mono ?_; rintro e w9 ⟨rfl, hb9⟩; have HB9 : Hid (Below w.heap.size w w9) := HB3.out.trans (hb9.mono HB3.out.size)))
  go_ret
  exact ⟨rfl, HB9.out⟩
theorem batchDecodes_walk (a0 : Option Addr) (cap0 : Nat) (l0 : List Nat) (w : World) (ht : Tab w) (w0 : Row w a0 l0) (m0 : l0.length ≤ maxLen) (c0 : l0.length ≤ cap0) (n0 : a0 = none → cap0 = 0) (x0 : cap0 ≤ maxLen) :
    Calls Tryd.prog 4 #[.slice a0 l0.length cap0] w fun e w' => e = .returned (.bool true) ∧ Below w.heap.size w w' := by
  by_cases h : 8000 < l0.length
  · exact decodes_long a0 cap0 l0.length w ht h
  · have h8 : l0.length ≤ 8000 := Nat.not_lt.1 h
    by_cases hok : OkB l0
    · refine decodes_in a0 cap0 l0 w ht w0 h8 (bOf l0) ((lenN l0 : Nat) : Int) 0 (Nat.le_trans (wr_len hok.wr).1 (by decide)) (fun x t1 t2 => ?_) (fun x t1 t2 => ?_)
      · refine (bdecode_any a0 cap0 l0 x t1 t2 c0 x0 (Nat.le_trans h8 (by decide))).mono ?_
        rintro e w' ⟨h1, _, hb⟩
        obtain ⟨a', c', rfl, h2, _⟩ := h1 hok
        exact ⟨a', c', rfl, h2, hb⟩
      · refine (rdb_any a0 cap0 l0 x t1 t2 c0 x0 h8).mono ?_
        rintro e w' ⟨h1, _, hb⟩
        obtain ⟨a', c', rfl, h2, _⟩ := h1 hok
        exact ⟨a', c', rfl, h2, hb⟩
    · refine decodes_in a0 cap0 l0 w ht w0 h8 bz 0 10 (by simp [bz]) (fun x t1 t2 => ?_) (fun x t1 t2 => ?_)
      · refine (bdecode_any a0 cap0 l0 x t1 t2 c0 x0 (Nat.le_trans h8 (by decide))).mono ?_
        rintro e w' ⟨_, h1, hb⟩
        exact ⟨none, 0, h1 hok, RRow.nil _ _, hb⟩
      · refine (rdb_any a0 cap0 l0 x t1 t2 c0 x0 h8).mono ?_
        rintro e w' ⟨_, h1, hb⟩
        exact ⟨none, 0, h1 hok, RRow.nil _ _, hb⟩
end Go.Proofs.YtgpeldmplkijlaaDoor
