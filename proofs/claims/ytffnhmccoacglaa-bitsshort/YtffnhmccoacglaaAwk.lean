/- awake is true, in whatever world, and turns nothing that was there. -/
import Derived.Test.YtffnhmccoacglaaFst
namespace Go.Proofs.Ytffnhmccoacglaa
set_option linter.unusedSimpArgs false
set_option linter.unusedVariables false
open Go.RowKit
theorem row_alloc (w : World) (l : List Nat) (h : ∀ i, l.getD i 0 < 256) : Row (w.alloc (.cells (cv l).toArray 5)) (some ⟨w.heap.size, 0, none⟩) l := by
  intro i hi
  refine ⟨w.heap.size, 0, rfl, ?_, h i⟩
  rw [cell_of_row _ w.heap.size (0 + i) (cv l).toArray 5 (0, 0) (heap_alloc_new w _)]
  simpa using cv_get l i hi
theorem lt3 {a b c : Nat} (ha : a < 256) (hb : b < 256) (hc : c < 256) : ∀ i, [a, b, c].getD i 0 < 256 := by
  intro i
  match i with
  | 0 => simpa
  | 1 => simpa
  | 2 => simpa
  | i + 3 => simp
theorem lt2 {a b : Nat} (ha : a < 256) (hb : b < 256) : ∀ i, [a, b].getD i 0 < 256 := by
  intro i
  match i with
  | 0 => simpa
  | 1 => simpa
  | i + 2 => simp
theorem row123 (w : World) : Row (w.alloc (.cells #[.int .u8 1, .int .u8 2, .int .u8 3] 5)) (some ⟨w.heap.size, 0, none⟩) [1, 2, 3] := row_alloc w [1, 2, 3] (lt3 (by decide) (by decide) (by decide))
theorem row128 (w : World) (b : Nat) (hb : b = w.heap.size) : Row (w.alloc (.cells #[.int .u8 128, .int .u8 0] 5)) (some ⟨b, 0, none⟩) [128, 0] := by subst hb; exact row_alloc w [128, 0] (lt2 (by decide) (by decide))
theorem row172 (w : World) (b : Nat) (hb : b = w.heap.size) : Row (w.alloc (.cells #[.int .u8 172, .int .u8 2] 5)) (some ⟨b, 0, none⟩) [172, 2] := by subst hb; exact row_alloc w [172, 2] (lt2 (by decide) (by decide))
theorem row255 (w : World) (b : Nat) (hb : b = w.heap.size) : Row (w.alloc (.cells #[.int .u8 255, .int .u8 1] 5)) (some ⟨b, 0, none⟩) [255, 1] := by subst hb; exact row_alloc w [255, 1] (lt2 (by decide) (by decide))
theorem get123 : getI [1, 2, 3] 1 2 true = 515 := by decide
theorem fits123 : fitsB 3 1 2 = true := by decide
theorem groups300 : groups 300 = [172, 2] := by decide
theorem first9 (r : Int) (h : FirstIs [255, 1] 16 r) : r = 9 := by
  refine FirstIs.one h (.inl ⟨9, rfl, by decide, by decide, by decide, by decide⟩)
set_option maxRecDepth 100000 in
theorem awake_any (w : World) : Calls Try.prog 14 #[] w fun e w' => e = .returned (.bool true) ∧ Below w.heap.size w w' := by
  go_enter Try.func14, Try.ntmps14
  go_wp2_with fail
  refine (get_any (some ⟨w.heap.size, 0, none⟩) 3 [1, 2, 3] 1 2 true _ (row123 w) (by decide)).mono ?_
  rintro e w1 ⟨rfl, rfl⟩
  rw [get123, show [1, 2, 3].length = 3 from rfl, fits123]
  go_wp2_with fail
  refine (unv_any (some ⟨w.heap.size + 1, 0, none⟩) 2 [128, 0] _ (row128 _ _ (by simp)) (by decide)).mono ?_
  rintro e w1 ⟨rfl, rfl⟩
  rw [show uv [128, 0] 0 0 = (0, 0) by decide]
  go_wp2_with fail
  refine (varint_any 300 _ (by decide)).mono ?_
  rintro e w1 ⟨v, rfl, hown, hb⟩
  obtain ⟨a, cap, rfl, hrow, hm⟩ := owns_row hown (groups_lt 300 (by decide))
  rw [groups300] at hrow hm ⊢
  clear hown hm
  have hb2 : Below w.heap.size w w1 := (((Below.refl _ _).alloc (Nat.le_refl _) _).alloc (by simp) _).trans (hb.mono (by simp; omega))
  have hsz : w.heap.size ≤ w1.heap.size := hb2.size
  have HB : Hid (Below w.heap.size w w1) := hb2
  clear hb hb2
  go_wp2_with fail
  refine (bytes_any a cap [172, 2] (some ⟨w1.heap.size, 0, none⟩) 2 [172, 2] _ (hrow.below ((Below.refl _ _).alloc (Nat.le_refl _) _)) (row172 _ _ rfl) (by decide) (by decide)).mono ?_
  rintro e w2 ⟨rfl, n, rfl⟩
  rw [show decide ([172, 2] = [172, 2]) = true from rfl]
  go_wp2_with fail
  refine (first_any (some ⟨w1.heap.size + 1, 0, none⟩) 2 [255, 1] 16 _ (row255 _ _ (by simp)) (by decide)).mono ?_
  rintro e w3 ⟨⟨r, rfl, hr⟩, rfl⟩
  have hr9 := first9 r hr
  subst hr9
  clear hr
  go_wp2_with fail
  go_ret
  refine ⟨rfl, ?_⟩
  exact (below_drewN (HB.out.alloc hsz _) n).alloc (by simp; omega) _
end Go.Proofs.Ytffnhmccoacglaa
