/- The walk of CrcSums: true for every argument. -/
import Derived.Test.YtkbimkpbpbjafaaDoorPcs
import Derived.Test.YtkbimkpbpbjafaaDoorApp
namespace Go.Proofs.YtkbimkpbpbjafaaDoor
set_option linter.unusedSimpArgs false
set_option linter.unusedVariables false
open Go.RowKit
set_option maxRecDepth 100000 in
theorem crcSums_walk (a0 : Option Addr) (cap0 : Nat) (l0 : List Nat) (a1 : Option Addr) (cap1 : Nat) (l1 : List Nat) (a2 : Int) (w : World) (ht : Tab w) (w0 : Row w a0 l0) (m0 : l0.length ≤ maxLen) (c0 : l0.length ≤ cap0) (n0 : a0 = none → cap0 = 0) (w1 : Row w a1 l1) (m1 : l1.length ≤ maxLen) (c1 : l1.length ≤ cap1) (n1 : a1 = none → cap1 = 0) (w2 : (Lit.int .u32 a2).wf = true) :
    Calls Tryd.prog 3 #[.slice a0 l0.length cap0, .slice a1 l1.length cap1, .int .u32 a2] w fun e w' => e = .returned (.bool true) ∧ Below w.heap.size w w' := by
  clear c0 c1
  obtain ⟨b1, b2⟩ := bdu32 w2
  clear w2
  obtain ⟨c, rfl⟩ := Int.eq_ofNat_of_zero_le b1
  have hc : c < 4294967296 := by omega
  clear b1 b2
  have hM0 := m0
  have hM1 := m1
  unfold maxLen at hM0 hM1
  by_cases h3 : 3000 < l0.length
  · have h3I : 3000 < (l0.length : Int) := by omega
    go_enter Tryd.func3, Tryd.ntmps3
    go_wp2_with (go_at_call 9; refine (awake_any _ ht).mono ?_; rintro e w' ⟨rfl, hb⟩)
    go_ret
    exact ⟨rfl, by assumption⟩
  have h3I : ¬ 3000 < (l0.length : Int) := by omega
  by_cases h4 : 3000 < l1.length
  · have h4I : 3000 < (l1.length : Int) := by omega
    go_enter Tryd.func3, Tryd.ntmps3
    go_wp2_with (go_at_call 9; refine (awake_any _ ht).mono ?_; rintro e w' ⟨rfl, hb⟩)
    go_ret
    exact ⟨rfl, by assumption⟩
  have h4I : ¬ 3000 < (l1.length : Int) := by omega
  have hs0 := sum_lt l0 w0.bd
  have HJ : Hid (P.more (P.sum l0) l1 = P.sum (l0 ++ l1)) := P.more_append 0 l0 l1
  obtain ⟨X, HX⟩ : ∃ X, Hid (P.more c l1 = X) := ⟨_, rfl⟩
  obtain ⟨Y, HY⟩ : ∃ Y, Hid (P.sum (l0 ++ l1) = Y) := ⟨_, rfl⟩
  rw [HY.out] at HJ
  have eX := eqI (X : Int)
  have eY := eqI (Y : Int)
  have K1 : Hid (∀ w', Tab w' → Row w' a0 l0 → Calls Tryd.prog 10 #[.slice a0 l0.length cap0] w' fun e w1 => e = .returned (.int .u32 ((P.sum l0 : Nat) : Int)) ∧ w1 = w') := fun w' h1 h2 => sum_any a0 cap0 l0 w' h1 h2 m0
  have K2 : Hid (∀ w', Row w' a0 l0 → Calls Tryd.prog 11 #[.slice a0 l0.length cap0] w' fun e w1 => e = .returned (.int .u32 ((P.sum l0 : Nat) : Int)) ∧ w1 = w') := fun w' h2 => rsum_any a0 cap0 l0 w' h2 m0
  have K3 : Hid (∀ w', Tab w' → Row w' a1 l1 → Calls Tryd.prog 12 #[.int .u32 c, .slice a1 l1.length cap1] w' fun e w1 => e = .returned (.int .u32 ((X : Nat) : Int)) ∧ w1 = w') := fun w' h1 h2 => by
    have := more_any c a1 cap1 l1 w' h1 hc h2 m1
    rw [HX.out] at this
    exact this
  have K4 : Hid (∀ w', Row w' a1 l1 → Calls Tryd.prog 13 #[.int .u32 c, .slice a1 l1.length cap1] w' fun e w1 => e = .returned (.int .u32 ((X : Nat) : Int)) ∧ w1 = w') := fun w' h2 => by
    have := rmore_any c a1 cap1 l1 w' hc h2 m1
    rw [HX.out] at this
    exact this
  have K5 : Hid (∀ w', Tab w' → Row w' a1 l1 → Calls Tryd.prog 12 #[.int .u32 ((P.sum l0 : Nat) : Int), .slice a1 l1.length cap1] w' fun e w1 => e = .returned (.int .u32 ((Y : Nat) : Int)) ∧ w1 = w') := fun w' h1 h2 => by
    have := more_any (P.sum l0) a1 cap1 l1 w' h1 hs0 h2 m1
    rw [HJ.out] at this
    exact this
  have HLen : Hid (l0.length + l1.length = (l0 ++ l1).length) := by show _ = _; simp
  have HCv : Hid (cv l0 ++ cv l1 = cv (l0 ++ l1)) := (cv_append l0 l1).symm
  have hbd : ∀ i, (l0 ++ l1).getD i 0 < 256 := by
    intro i
    by_cases hi : i < (l0 ++ l1).length
    · have hm : (l0 ++ l1).getD i 0 ∈ l0 ++ l1 := by simp only [List.getD, List.getElem?_eq_getElem hi, Option.getD_some]; exact List.getElem_mem hi
      rcases List.mem_append.1 hm with h | h
      · exact w0.bd _ h
      · exact w1.bd _ h
    · rw [getD_out _ _ (by omega)]; omega
  have HBd : Hid (∀ i, (l0 ++ l1).getD i 0 < 256) := hbd
  clear hbd
  generalize l0 ++ l1 = l01 at *
  have eS := eqI ((P.sum l0 : Nat) : Int)
  have K6 : Hid (∀ w' a' cap', Row w' a' l01 → l01.length ≤ maxLen → Calls Tryd.prog 11 #[.slice a' l01.length cap'] w' fun e w1 => e = .returned (.int .u32 ((Y : Nat) : Int)) ∧ w1 = w') := fun w' a' cap' h2 hm => by
    have := rsum_any a' cap' l01 w' h2 hm
    rw [HY.out] at this
    exact this
  clear HJ HX HY
  generalize P.sum l0 = s0 at *
  have tok2 : True := trivial
  have tok3 : True := trivial
  have tokA : True := trivial
  have hl0 : 0 + l0.length ≤ 100000 := by omega
  have hl1 : l0.length + l1.length ≤ 100000 := by omega
  have hown0 : (w.alloc (.cells #[] 5)).ownsRow w.heap.size 5 1 (.slice (some ⟨w.heap.size, 0, none⟩) 0 0) 0 [] := own_of (l := []) (cs := []) (Nat.le_refl _) rfl (by decide) rfl (heap_alloc_new w _)
  have hbel0 : Below w.heap.size w (w.alloc (.cells #[] 5)) := (Below.refl _ _).alloc (Nat.le_refl _) _
  have hbs0 : w.heap.size ≤ (w.alloc (.cells #[] 5)).heap.size := hbel0.size
  have ht0 := ht.below hbel0
  have r00 := w0.below hbel0
  go_enter Tryd.func3, Tryd.ntmps3
  go_wp2_with (first
    | (go_at_call 10; refine (K1.out _ ht w0).mono ?_; rintro e v2 ⟨rfl, hw⟩; subst v2)
    | (go_at_call 11; have _t := tok2; refine (K2.out _ w0).mono ?_; clear tok2 _t; rintro e v2 ⟨rfl, hw⟩; subst v2)
    | (go_at_call 12; have _t := tok3; refine (K3.out _ ht w1).mono ?_; clear tok3 _t; rintro e v2 ⟨rfl, hw⟩; subst v2)
    | (go_at_call 13; refine (K4.out _ w1).mono ?_; rintro e v2 ⟨rfl, hw⟩; subst v2)
    | (go_at_call 12; refine (K5.out _ ht w1).mono ?_; rintro e v2 ⟨rfl, hw⟩; subst v2)
    | (at_builtin; have _t := tokA; go_loud (refine wpList_append_row rfl (.tmp 35) (.tmp 36) rfl w.heap.size w _ 0 [] rfl hown0 hbel0 hbs0 a0 cap0 l0 rfl r00 n0 hl0 ?_; clear tokA _t; intro v1 u1 hown1 hb1; rw [Nat.zero_add, List.nil_append] at hown1; have hs1 := hb1.size; have r11 := w1.below hb1; clear hown0 hbel0 hbs0 ht0 r00))
    | (at_builtin; go_loud (refine wpList_append_row rfl (.tmp 37) (.tmp 38) rfl w.heap.size w v1 l0.length (cv l0) rfl hown1 hb1 hs1 a1 cap1 l1 rfl r11 n1 hl1 ?_; intro v2 u2 hown2 hb2; rw [HLen.out, HCv.out] at hown2; obtain ⟨a9, cap9, rfl, r9, m9⟩ := owns_row hown2 HBd.out; have ht2 := ht.below hb2; clear hown1 hown2 hb1))
    | (go_at_call 11; refine (K6.out _ _ _ r9 m9).mono ?_; rintro e v2 ⟨rfl, hw⟩; subst v2)
    | (go_at_call 9; refine (awake_any _ ht2).mono ?_; rintro e v6 ⟨rfl, hb1⟩; have hbel : Below w.heap.size w v6 := hb2.trans (hb1.mono hb2.size); clear hb1))
  go_ret
  exact ⟨rfl, hbel⟩
end Go.Proofs.YtkbimkpbpbjafaaDoor
