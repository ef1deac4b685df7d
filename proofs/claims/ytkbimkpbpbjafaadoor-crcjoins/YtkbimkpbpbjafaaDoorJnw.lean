/- The walk of CrcJoins: true for every argument. -/
import Derived.Test.YtkbimkpbpbjafaaDoorJn
import Derived.Test.YtkbimkpbpbjafaaDoorPcs
namespace Go.Proofs.YtkbimkpbpbjafaaDoor
set_option linter.unusedSimpArgs false
set_option linter.unusedVariables false
open Go.RowKit
theorem join_sums (l m : List Nat) : join (P.sum l) (P.sum m) (m.length : Nat) = P.more (P.sum l) m := by
  rw [P.join_eq]
  unfold join
  split
  · have : m = [] := by cases m with
      | nil => rfl
      | cons x r => simp at *; omega
    subst this
    simp [P.shN, sum_nil]
  · rw [Int.toNat_natCast]
set_option maxRecDepth 100000 in
theorem crcJoins_walk (a0 : Int) (a1 : Int) (a2 : Int) (a3 : Option Addr) (cap3 : Nat) (l3 : List Nat) (a4 : Option Addr) (cap4 : Nat) (l4 : List Nat) (w : World) (ht : Tab w) (w0 : (Lit.int .u32 a0).wf = true) (w1 : (Lit.int .u32 a1).wf = true) (w2 : (Lit.int .i64 a2).wf = true) (w3 : Row w a3 l3) (m3 : l3.length ≤ maxLen) (c3 : l3.length ≤ cap3) (n3 : a3 = none → cap3 = 0) (w4 : Row w a4 l4) (m4 : l4.length ≤ maxLen) (c4 : l4.length ≤ cap4) (n4 : a4 = none → cap4 = 0) :
    Calls Tryd.prog 4 #[.int .u32 a0, .int .u32 a1, .int .i64 a2, .slice a3 l3.length cap3, .slice a4 l4.length cap4] w fun e w' => e = .returned (.bool true) ∧ Below w.heap.size w w' := by
  clear n3 n4 c3 c4
  obtain ⟨b1, b2⟩ := bdu32 w0
  obtain ⟨b3, b4⟩ := bdu32 w1
  obtain ⟨b5, b6⟩ := bd64 w2
  clear w0 w1 w2
  obtain ⟨a, rfl⟩ := Int.eq_ofNat_of_zero_le b1
  obtain ⟨b, rfl⟩ := Int.eq_ofNat_of_zero_le b3
  have ha : a < 4294967296 := by omega
  have hb : b < 4294967296 := by omega
  clear b1 b2 b3 b4
  have hM3 := m3
  have hM4 := m4
  unfold maxLen at hM3 hM4
  by_cases h3 : 3000 < l3.length
  · have h3I : 3000 < (l3.length : Int) := by omega
    go_enter Tryd.func4, Tryd.ntmps4
    go_wp2_with (go_at_call 9; refine (awake_any _ ht).mono ?_; rintro e w' ⟨rfl, hb⟩)
    go_ret
    exact ⟨rfl, by assumption⟩
  have h3I : ¬ 3000 < (l3.length : Int) := by omega
  by_cases h4 : 3000 < l4.length
  · have h4I : 3000 < (l4.length : Int) := by omega
    go_enter Tryd.func4, Tryd.ntmps4
    go_wp2_with (go_at_call 9; refine (awake_any _ ht).mono ?_; rintro e w' ⟨rfl, hb⟩)
    go_ret
    exact ⟨rfl, by assumption⟩
  have h4I : ¬ 3000 < (l4.length : Int) := by omega
  by_cases h5 : 100000 < a2
  · go_enter Tryd.func4, Tryd.ntmps4
    go_wp2_with (go_at_call 9; refine (awake_any _ ht).mono ?_; rintro e w' ⟨rfl, hb⟩)
    go_ret
    exact ⟨rfl, by assumption⟩
  have hs3 := sum_lt l3 w3.bd
  have hs4 := sum_lt l4 w4.bd
  have HJ : Hid (join (P.sum l3) (P.sum l4) (l4.length : Nat) = P.more (P.sum l3) l4) := join_sums l3 l4
  obtain ⟨X, HX⟩ : ∃ X, Hid (join a b a2 = X) := ⟨_, rfl⟩
  obtain ⟨Y, HY⟩ : ∃ Y, Hid (P.more (P.sum l3) l4 = Y) := ⟨_, rfl⟩
  rw [HY.out] at HJ
  have eX := eqI (X : Int)
  have eY := eqI (Y : Int)
  have K1 : Hid (∀ w', Tab w' → Row w' a3 l3 → Calls Tryd.prog 10 #[.slice a3 l3.length cap3] w' fun e w1 => e = .returned (.int .u32 ((P.sum l3 : Nat) : Int)) ∧ w1 = w') := fun w' h1 h2 => sum_any a3 cap3 l3 w' h1 h2 m3
  have K2 : Hid (∀ w', Tab w' → Row w' a4 l4 → Calls Tryd.prog 10 #[.slice a4 l4.length cap4] w' fun e w1 => e = .returned (.int .u32 ((P.sum l4 : Nat) : Int)) ∧ w1 = w') := fun w' h1 h2 => sum_any a4 cap4 l4 w' h1 h2 m4
  have K3 : Hid (∀ w', Tab w' → Row w' a4 l4 → Calls Tryd.prog 12 #[.int .u32 ((P.sum l3 : Nat) : Int), .slice a4 l4.length cap4] w' fun e w1 => e = .returned (.int .u32 ((Y : Nat) : Int)) ∧ w1 = w') := fun w' h1 h2 => by
    have := more_any (P.sum l3) a4 cap4 l4 w' h1 hs3 h2 m4
    rw [HY.out] at this
    exact this
  have K4 : Hid (∀ w', Calls Tryd.prog 14 #[.int .u32 ((P.sum l3 : Nat) : Int), .int .u32 ((P.sum l4 : Nat) : Int), .int .i64 ((l4.length : Nat) : Int)] w' fun e w1 => e = .returned (.int .u32 ((Y : Nat) : Int)) ∧ Below w'.heap.size w' w1) := fun w' => by
    have := join_any (P.sum l3) (P.sum l4) (l4.length : Nat) w' hs3 hs4 (by omega) (by omega)
    rw [HJ.out] at this
    exact this
  have K5 : Hid (∀ w', Calls Tryd.prog 14 #[.int .u32 a, .int .u32 b, .int .i64 a2] w' fun e w1 => e = .returned (.int .u32 ((X : Nat) : Int)) ∧ Below w'.heap.size w' w1) := fun w' => by
    have := join_any a b a2 w' ha hb b5 b6
    rw [HX.out] at this
    exact this
  have K6 : Hid (∀ w', Calls Tryd.prog 15 #[.int .u32 a, .int .u32 b, .int .i64 a2] w' fun e w1 => e = .returned (.int .u32 ((X : Nat) : Int)) ∧ w1 = w') := fun w' => by
    have := rjoin_any a b a2 w' ha hb b5 b6
    rw [HX.out] at this
    exact this
  clear HJ HX HY
  generalize P.sum l3 = s3 at *
  generalize P.sum l4 = s4 at *
  have hbel := Below.refl w.heap.size w
  have tok1 : True := trivial
  have tok2 : True := trivial
  have tok5 : True := trivial
  go_enter Tryd.func4, Tryd.ntmps4
  go_wp2_with (first
    | (go_at_call 14; have _t := tok5; refine (K5.out _).mono ?_; clear tok5 _t; rintro e v1 ⟨rfl, hb1⟩; have ht := ht.below hb1; have w3 := w3.below hb1; have w4 := w4.below hb1; have hbel : Below w.heap.size w v1 := hbel.trans (hb1.mono hbel.size); clear hb1)
    | (go_at_call 15; refine (K6.out _).mono ?_; rintro e v2 ⟨rfl, hw⟩; subst v2)
    | (go_at_call 10; have _t := tok1; refine (K1.out _ ht w3).mono ?_; clear tok1 _t; rintro e v2 ⟨rfl, hw⟩; subst v2)
    | (go_at_call 10; have _t := tok2; refine (K2.out _ ht w4).mono ?_; clear tok2 _t; rintro e v2 ⟨rfl, hw⟩; subst v2)
    | (go_at_call 14; refine (K4.out _).mono ?_; rintro e v3 ⟨rfl, hb1⟩; have ht := ht.below hb1; have w3 := w3.below hb1; have w4 := w4.below hb1; have hbel : Below w.heap.size w v3 := hbel.trans (hb1.mono hbel.size); clear hb1)
    | (go_at_call 10; refine (K1.out _ ht w3).mono ?_; rintro e v2 ⟨rfl, hw⟩; subst v2)
    | (go_at_call 12; refine (K3.out _ ht w4).mono ?_; rintro e v2 ⟨rfl, hw⟩; subst v2)
    | (go_at_call 9; refine (awake_any _ ht).mono ?_; rintro e v6 ⟨rfl, hb1⟩; have hbel : Below w.heap.size w v6 := hbel.trans (hb1.mono hbel.size); clear hb1))
  go_ret
  exact ⟨rfl, hbel⟩
end Go.Proofs.YtkbimkpbpbjafaaDoor
