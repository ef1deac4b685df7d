/- The walk of BatchFresh. -/
import Derived.Test.YtgpeldmplkijlaaDoorAw
import Derived.Test.YtgpeldmplkijlaaDoorFr
import Derived.Test.YtgpeldmplkijlaaDoorSm
namespace Go.Proofs.YtgpeldmplkijlaaDoor
set_option linter.unusedSimpArgs false
set_option linter.unusedVariables false
open Go.RowKit
theorem frR_len (base prod seq : Int) (rs : List Rc) : (frR base prod seq rs).rs.length ≤ rs.length := by
  unfold frR
  split
  · show (numL _ _).length ≤ _
    rw [numL_len]
    omega
  · exact Nat.zero_le _
set_option maxHeartbeats 1600000 in
set_option maxRecDepth 100000 in
theorem batchFresh_walk (a0 a1 a2 : Int) (a3 : Option Addr) (cap3 : Nat) (l3 : List Rc) (w : World) (ht : Tab w) (w0 : (Lit.int .i64 a0).wf = true) (w1 : (Lit.int .i64 a1).wf = true) (w2 : (Lit.int .i64 a2).wf = true) (w3 : RRow w a3 l3) (m3 : l3.length ≤ maxLen) (n3 : a3 = none → cap3 = 0) :
    Calls Tryd.prog 6 #[.int .i64 a0, .int .i64 a1, .int .i64 a2, .slice a3 l3.length cap3] w fun e w' => e = .returned (.bool true) ∧ Below w.heap.size w w' := by
  have hp := (bd64 w1).2
  have hs := (bd64 w2).2
  clear w0 w1 w2
  have HSM : Hid (∀ x, RRow x a3 l3 → Calls Tryd.prog 11 #[.slice a3 l3.length cap3] x fun e w' => IsB l3.length e ∧ Below x.heap.size x w') := fun x hx => small_any a3 cap3 l3 x hx m3
  have HA : Hid (∀ x, Tab x → Calls Tryd.prog 12 #[] x fun e w' => e = .returned (.bool true) ∧ Below x.heap.size x w') := fun x h => awake_any x h
  have HF1 : Hid (l3.length ≤ 1000 → ∀ a c, (a = none → c = 0) → ∀ x, Tab x → RRow x a l3 → Calls Tryd.prog 23 #[.int .i64 a0, .int .i64 a1, .int .i64 a2, .slice a l3.length c] x fun e w' => ∃ a' c', e = .returned (.tuple #[bav (frR a0 a1 a2 l3) a' c', .int .i64 (chkB (frB a0 a1 a2 l3))]) ∧ RRow w' a' (frR a0 a1 a2 l3).rs ∧ (a' = none → c' = 0) ∧ Below x.heap.size x w') := fun hl a c hn => fresh_any a0 a1 a2 a c l3 hl hn hp hs
  have HF2 : Hid (l3.length ≤ 1000 → ∀ x, Tab x → RRow x a3 l3 → Calls Tryd.prog 24 #[.int .i64 a0, .int .i64 a1, .int .i64 a2, .slice a3 l3.length cap3] x fun e w' => ∃ a' c', e = .returned (.tuple #[bav (frR a0 a1 a2 l3) a' c', .int .i64 (chkB (frB a0 a1 a2 l3))]) ∧ RRow w' a' (frR a0 a1 a2 l3).rs ∧ (a' = none → c' = 0) ∧ Below x.heap.size x w') := fun hl => rfresh_any a0 a1 a2 a3 cap3 l3 hl hp hs
  have hlR := frR_len a0 a1 a2 l3
  have HSA : Hid (l3.length ≤ 1000 → ∀ x a c a' c', RRow x a (frR a0 a1 a2 l3).rs → RRow x a' (frR a0 a1 a2 l3).rs → Calls Tryd.prog 20 #[bav (frR a0 a1 a2 l3) a c, bav (frR a0 a1 a2 l3) a' c'] x fun e w' => e = .returned (.bool true) ∧ Below x.heap.size x w') := fun hl x a c a' c' h1 h2 => same_any _ a c a' c' x h1 h2 (by unfold maxLen; omega)
  have HRE : Hid (∀ x a c a' c', RRow x a l3 → RRow x a' l3 → Calls Tryd.prog 25 #[.slice a l3.length c, .slice a' l3.length c'] x fun e w' => e = .returned (.bool true) ∧ ∃ n, w' = x.drewN n) := fun x a c a' c' h1 h2 => records_same a c a' c' l3 x h1 h2 m3
  have HR0 : Hid (RRow w a3 l3) := w3
  have HT : Hid (Tab w) := ht
  generalize chkB (frB a0 a1 a2 l3) = ck at *
  generalize frR a0 a1 a2 l3 = R at *
  obtain ⟨base, span, prod, seq, rs⟩ := R
  simp only [bav] at *
  have hcc : (ck == ck) = true := by simp
  clear w3 ht hlR
  go_enter Tryd.func6, Tryd.ntmps6
  go_wp2_with (first
    | (go_at_call 11; refine (HSM.out _ HR0.out).mono ?_; rintro e w1 ⟨⟨sm, rfl, hsm⟩, hb1⟩; have HB1 : Hid (Below w.heap.size w w1) := hb1; have HSM2 : Hid (sm = true → l3.length ≤ 300) := hsm; clear hb1 hsm)
    | (go_at_call 12; have _t := HB1; refine (HA.out _ (Tab.below HT.out HB1.out)).mono ?_; rintro e w9 ⟨rfl, hb9⟩; have HB9 : Hid (Below w.heap.size w w9) := HB1.out.trans (hb9.mono HB1.out.size))
    | (at_builtin; have hl3 := HSM2.out (by first | rfl | assumption | simp_all); refine wpList_append_recs (by rfl) _ _ rfl w1.heap.size w1 _ _ _ rfl (World.ownsRow_nil _ _ _ _) (Below.refl _ _) (Nat.le_refl _) a3 cap3 l3 rfl (RRow.below HR0.out HB1.out) n3 (by omega) ?_; intro v2 w2 hown2 hb2; rw [List.nil_append, Nat.zero_add] at hown2; obtain ⟨a2', k2, rfl, hr2, hn2, _⟩ := owns_rrow hown2; have HB2 : Hid (Below w.heap.size w w2) := HB1.out.trans (hb2.mono HB1.out.size); have HO2 : Hid (RRow w2 a2' l3) := hr2; clear HB1 hown2 hb2 hr2)
    | (go_at_call 23; refine (HF1.out (by omega) _ _ hn2 _ (Tab.below HT.out HB2.out) HO2.out).mono ?_; rintro e w3 ⟨a4, k4, rfl, hr4, _, hb4⟩; have HB3 : Hid (Below w.heap.size w w3) := HB2.out.trans (hb4.mono HB2.out.size); have HO3 : Hid (RRow w3 a2' l3) := RRow.below HO2.out hb4; have HR3 : Hid (RRow w3 a4 rs) := hr4; clear hb4 hr4 HB2 HO2)
    | (go_at_call 24; refine (HF2.out (by omega) _ (Tab.below HT.out (HB3.out.alloc HB3.out.size _)) (RRow.below HR0.out (HB3.out.alloc HB3.out.size _))).mono ?_; rintro e w5 ⟨a5, k5, rfl, hr5, _, hb5⟩; have HX : Hid (BxS w3 (bcells ⟨base, span, prod, seq, rs⟩ a4 k4) w5) := BxS.below (BxS.new w3 _) hb5; have HR5 : Hid (RRow w5 a5 rs) := hr5; obtain ⟨c0, c1, c2, c3, c4, cz⟩ := BxS.cells HX.out; simp only at c0 c1 c2 c3 c4; clear hb5 hr5)
    | (go_at_call 20; refine (HSA.out (by omega) _ _ _ _ _ (RRow.below HR3.out (HX.out.bel.trans ((below_box _).mono HX.out.bel.size))) (RRow.below HR5.out (below_box _))).mono ?_; rintro e w6 ⟨rfl, hb6⟩; have HB6 : Hid (Below w3.heap.size w3 w6) := HX.out.bel.trans (((below_box _).trans (hb6.mono (by simp))).mono HX.out.bel.size); have HB7 : Hid (Below w.heap.size w w6) := HB3.out.trans (HB6.out.mono HB3.out.size); clear hb6)
    | (go_at_call 25; refine (HRE.out _ _ _ _ _ (RRow.below HO3.out HB6.out) (RRow.below HR0.out HB7.out)).mono ?_; rintro e w8 ⟨rfl, n8, hw8⟩; have HB8 : Hid (Below w.heap.size w w8) := (by rw [hw8]; exact below_drewN HB7.out _); clear hw8)
    | (go_at_call 12; refine (HA.out _ (Tab.below HT.out HB8.out)).mono ?_; rintro e w9 ⟨rfl, hb9⟩; have HB9 : Hid (Below w.heap.size w w9) := HB8.out.trans (hb9.mono HB8.out.size)))
  all_goals
    go_ret
    exact ⟨rfl, HB9.out⟩
end Go.Proofs.YtgpeldmplkijlaaDoor
