/- awake. -/
import Derived.Test.YthfcefmkcgjfcaaEn
import Derived.Test.YthfcefmkcgjfcaaAlk
namespace Go.Proofs.Ythfcefmkcgjfcaa
set_option linter.unusedSimpArgs false
set_option linter.unusedVariables false
open Go.RowKit
def ra : Rc := ⟨true, ⟨#[97]⟩, false, ⟨#[]⟩, 5, 0⟩
theorem ra_e : encE ra 5 = 0 := by decide +kernel
theorem ra_l : encR ra 5 = [1, 0, 0, 1, 97] := by decide +kernel
theorem row_five (w : World) : Row (w.alloc (.cells #[.int .u8 1, .int .u8 0, .int .u8 0, .int .u8 1, .int .u8 97] 5)) (some ⟨w.heap.size, 0, none⟩) [1, 0, 0, 1, 97] := row_alloc w [1, 0, 0, 1, 97] (by
  intro i
  match i with
  | 0 => decide
  | 1 => decide
  | 2 => decide
  | 3 => decide
  | 4 => decide
  | i + 5 => simp)
set_option maxRecDepth 100000 in
theorem awake_any (w : World) : Calls Try.prog 10 #[] w fun e w' => e = .returned (.bool true) ∧ Below w.heap.size w w' := by
  have HE : Hid _ := encode_any ra 5
  rw [ra_e, ra_l] at HE
  have HL : Hid (∀ i, [1, 0, 0, 1, 97].getD i 0 < 256) := by
    intro i
    match i with
    | 0 => decide
    | 1 => decide
    | 2 => decide
    | 3 => decide
    | 4 => decide
    | i + 5 => simp
  simp only [ra, Rc.cells] at HE
  go_enter Try.func10, Try.ntmps10
  go_wp2_with (first
    | (go_at_call 11; refine (HE.out _).mono ?_; rintro e w1 ⟨v, rfl, hown, hb⟩; obtain ⟨a, c, rfl, hr, hn⟩ := owns_sl hown HL.out; clear hown hn HE HL)
    | (go_at_call 13; refine (bytes_any a c [1, 0, 0, 1, 97] (some ⟨w1.heap.size, 0, none⟩) 5 [1, 0, 0, 1, 97] _ (hr.below (below_box _)) (row_five w1) (by decide) (by decide)).mono ?_; rintro e w2 ⟨rfl, n, rfl⟩; rw [show decide ([1, 0, 0, 1, 97] = [1, 0, 0, 1, 97]) = true from rfl]))
  go_ret
  exact ⟨rfl, below_drewN (hb.trans (below_box _ |>.mono hb.size)) n⟩
end Go.Proofs.Ythfcefmkcgjfcaa
