/- awake. -/
import Derived.Test.YtgpeldmplkijlaaDoorFh
namespace Go.Proofs.YtgpeldmplkijlaaDoor
set_option linter.unusedSimpArgs false
set_option linter.unusedVariables false
open Go.RowKit
def ra1 : Rc := ⟨false, ⟨#[]⟩, true, ⟨#[97]⟩, 0, 0⟩
def ba1 : Ba := ⟨7, 1, 0, 0, [ra1]⟩
theorem aw_b : frB 7 0 0 [ra1] = ba1 := by
  unfold frB ba1
  have h1 : max (1 : Int) (([ra1].length : Nat) : Int) = 1 := by decide
  have h2 : numL [ra1].length [ra1] = [ra1] := rfl
  rw [h1, h2]
theorem aw_c : chkB ba1 = 0 := by decide +kernel
theorem aw_r : frR 7 0 0 [ra1] = ba1 := by
  unfold frR
  rw [aw_b, if_pos aw_c]
theorem aw_l : (encBR ba1).length = 53 := by
  unfold encBR
  rw [if_pos aw_c, encB_len]
  decide +kernel
theorem aw_row (w : World) : RRow (w.alloc (.cells #[.bool false, .string ⟨#[]⟩, .bool true, .string ⟨#[97]⟩, .int .i64 0, .int .i64 0] 58)) (some ⟨w.heap.size, 0, none⟩) [ra1] := by
  have hc : ∀ j, (w.alloc (.cells ra1.cells 58)).cell? ⟨w.heap.size, j, none⟩ = ra1.cells[j]? := fun j => cell_of_row _ w.heap.size j ra1.cells 58 (0, 0) (heap_alloc_new w _)
  intro i hi
  obtain rfl : i = 0 := by simpa using hi
  exact ⟨w.heap.size, 0, rfl, hc 0, hc 1, hc 2, hc 3, hc 4, hc 5⟩
set_option maxHeartbeats 800000 in
set_option maxRecDepth 100000 in
theorem awake_any (w : World) (ht : Tab w) : Calls Tryd.prog 12 #[] w fun e w' => e = .returned (.bool true) ∧ Below w.heap.size w w' := by
  have HF : Hid (∀ x (a : Addr), Tab x → RRow x (some a) [ra1] → Calls Tryd.prog 23 #[.int .i64 7, .int .i64 0, .int .i64 0, .slice (some a) 1 1] x fun e w' => ∃ a' c', e = .returned (.tuple #[bav ba1 a' c', .int .i64 0]) ∧ RRow w' a' [ra1] ∧ (a' = none → c' = 0) ∧ Below x.heap.size x w') := by
    intro x a h1 h2
    have := fresh_any 7 0 0 (some a) 1 [ra1] (by simp) (fun c => by cases c) (by decide) (by decide) x h1 h2
    rw [aw_b, aw_r, aw_c] at this
    exact this
  have HE : Hid (∀ x a' c', Tab x → RRow x a' [ra1] → Calls Tryd.prog 13 #[bav ba1 a' c'] x fun e w' => ∃ v, e = .returned (.tuple #[v, .int .i64 0]) ∧ w'.ownsRow x.heap.size 5 1 v 53 (cv (encBR ba1)) ∧ Below x.heap.size x w') := by
    intro x a' c' h1 h2
    have := bencode_any ba1 a' c' ⟨by decide, by decide⟩ (by decide) x h1 h2
    rw [aw_c, aw_l] at this
    exact this
  have HLB : Hid (∀ i, (encBR ba1).getD i 0 < 256) := by
    unfold encBR
    rw [if_pos aw_c]
    exact lt_mem (encB_mem (chk_parts aw_c).1)
  have HLN : Hid ((encBR ba1).length = 53) := aw_l
  have HT : Hid (Tab w) := ht
  generalize encBR ba1 = L at *
  simp only [bav, ba1] at HF HE
  rw [show ([ra1] : List Rc).length = 1 from rfl] at HF HE
  clear ht
  go_enter Tryd.func12, Tryd.ntmps12
  go_wp2_with (first
    | (go_at_call 23; refine (HF.out _ _ (Tab.below HT.out (below_box _)) (aw_row w)).mono ?_; rintro e w1 ⟨a1, k1, rfl, hr1, hn1, hb1⟩; have HT1 : Hid (Tab w1) := Tab.below (Tab.below HT.out (below_box _)) hb1; have HR1 : Hid (RRow w1 a1 [ra1]) := hr1; have HB1 : Hid (Below w.heap.size w w1) := (below_box _).trans (hb1.mono (by simp)); clear hb1 hr1 hn1)
    | (go_at_call 13; refine (HE.out _ _ _ (Tab.below HT1.out (below_box _)) (RRow.below HR1.out (below_box _))).mono ?_; rintro e w2 ⟨v2, rfl, hown2, hb2⟩; rw [← HLN.out] at hown2; obtain ⟨a2, k2, rfl, _, _⟩ := owns_sl hown2 HLB.out; rw [HLN.out]; have HB2 : Hid (BxS w1 #[.int .i64 7, .int .i64 1, .int .i64 0, .int .i64 0, .slice a1 1 k1] w2) := BxS.below (BxS.new w1 _) hb2; obtain ⟨c0, c1, c2, c3, c4, cz⟩ := BxS.cells (b := ba1) HB2.out; simp only [ba1] at c0 c1 c2 c3 c4; clear hown2 hb2))
  go_ret
  exact ⟨rfl, HB1.out.trans (HB2.out.bel.mono HB1.out.size)⟩
end Go.Proofs.YtgpeldmplkijlaaDoor
