/- Some. -/
import Derived.Test.YtnnljdnaipjoiaaQb
import Derived.Lib.AppendZeros
namespace Go.Proofs.Ytnnljdnaipjoiaa
set_option linter.unusedSimpArgs false
set_option linter.unusedVariables false
open Go.RowKit
theorem cv_rep (n : Nat) : cv (List.replicate n 0) = List.replicate n (.int .u8 0) := by simp [cv]
theorem made_rep (n : Nat) : (madeCells (Value.int .u8 0).cells (n * 1)).toList = cv (List.replicate n 0) := by
  rw [cv_rep]
  apply List.ext_getElem
  · simp [madeCells]
  · intro i h1 h2
    simp [madeCells, Value.cells, Nat.mod_one]
/-- So many bytes that hang on a number. -/
def someL (n c : Nat) : List Nat := (List.range n).map fun i => (c + i / 7) % 256
theorem someL_len (n c : Nat) : (someL n c).length = n := by simp [someL]
theorem someL_lt (n c : Nat) : ∀ i, (someL n c).getD i 0 < 256 := by
  intro i
  by_cases h : i < n
  · simp [someL, List.getD, h]; omega
  · rw [getD_out _ _ (by rw [someL_len]; omega)]; omega
/-- Behind k rounds of Some. -/
def someK (n c k : Nat) : List Nat := (List.range n).map fun i => if i < k then (c + i / 7) % 256 else 0
theorem someK_zero (n c : Nat) : someK n c 0 = List.replicate n 0 := by
  apply List.ext_getElem
  · simp [someK]
  · intro i h1 h2; simp [someK]
theorem someK_all (n c : Nat) : someK n c n = someL n c := by
  apply List.ext_getElem
  · simp [someK, someL]
  · intro i h1 h2
    simp [someK] at h1
    simp [someK, someL, h1]
theorem someK_step (n c k : Nat) (h : k < n) : (someK n c k).set k ((c + k / 7) % 256) = someK n c (k + 1) := by
  apply List.ext_getElem
  · simp [someK]
  · intro i h1 h2
    simp [someK] at h1 h2
    simp only [List.getElem_set, someK, List.getElem_map, List.getElem_range]
    by_cases e : k = i
    · subst e; simp
    · have : i < k ↔ i < k + 1 := by omega
      simp [e, this]
theorem someK_len (n c k : Nat) : (someK n c k).length = n := by simp [someK]
set_option maxRecDepth 100000 in
theorem some_any (n : Nat) (w : World) (hn : n ≤ 10000) :
    Calls Try.prog 18 #[.int .i64 (n : Int), .int .i64 65] w fun e w' => ∃ g, e = .returned (.slice (some ⟨g, 0, none⟩) n n) ∧ Own w.heap.size w' g n (someL n 65) ∧ Below w.heap.size w w' := by
  obtain ⟨i0, hi0, hz0, hz1, hz2⟩ := info_parts Try.info5
  go_enter Try.func18, Try.ntmps18
  go_wp2_with (at_make; refine wpList_make_full _ rfl _ _ 44 rfl w.heap.size 5 i0 (.int .u8 0) 1 Try.underlying44 hi0 hz0 hz1 .i64 .i64 _ _ n rfl rfl rfl rfl (by rw [hz2]; omega) (by unfold maxLen; omega) (Nat.le_refl _) ?_; intro w1 hown hg; have HO1 : Hid (Own w.heap.size w1 w.heap.size n (someK n 65 0)) := (by rw [made_rep, ← someK_zero n 3] at hown; unfold Own; rw [someK_len]; exact hown); have HB1 : Hid (Below w.heap.size w w1) := below_made hg; clear hown hg)
  go_loopw [6] (fun i x => ∃ k : Nat, k ≤ n ∧ i = .int .i64 (k : Int) ∧ Own w.heap.size x w.heap.size n (someK n 65 k) ∧ Below w.heap.size w x) (fun i _ => n - (intOf i).toNat)
  case atStart => exact ⟨0, by omega, rfl, HO1.out, HB1.out⟩
  case round =>
    obtain ⟨k, hk, rfl, hown, hbel⟩ := hrel
    have HO : Hid (Own w.heap.size wr w.heap.size n (someK n 65 k) ∧ Below w.heap.size w wr) := ⟨hown, hbel⟩
    by_cases hlt : k < n
    · have hltI : (k : Int) < (n : Int) := by omega
      have hcell := hown.cell k (by rw [someK_len]; exact hlt)
      have hfree := hown.free k
      have HN : Hid (Own w.heap.size (wr.setCell ⟨w.heap.size, k, none⟩ (.int .u8 (((65 + k / 7) % 256 : Nat) : Int))) w.heap.size n (someK n 65 (k + 1))) := by
        have := hown.store k ((65 + k / 7) % 256)
        rw [someK_step n 65 k hlt] at this
        exact this
      have q7 : Int.tdiv (k : Int) 7 = ((k / 7 : Nat) : Int) := by rw [Int.tdiv_eq_ediv_of_nonneg (by omega)]; omega
      clear hown hbel
      generalize (someK n 65 k).getD k 0 = c0 at hcell
      go_wp2_with fail
      have ev : ((65 : Int) + (k : Int) / 7) % 256 = (((65 + k / 7) % 256 : Nat) : Int) := by omega
      rw [ev]
      exact ⟨⟨k + 1, by omega, by go_num, HN.out, HO.out.2.setCell (p := ⟨w.heap.size, k, none⟩) (Nat.le_refl _) _⟩, by simp [intOf]; omega⟩
    · obtain rfl : k = n := by omega
      go_wp2_with fail
      go_ret
      exact ⟨w.heap.size, rfl, by rw [← someK_all]; exact HO.out.1, HO.out.2⟩
end Go.Proofs.Ytnnljdnaipjoiaa
