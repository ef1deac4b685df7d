/- JournalNothing's walk. -/
import Derived.Test.YtmodjgailmpfmaaDoorLa
namespace Go.Proofs.YtmodjgailmpfmaaDoor
set_option linter.unusedSimpArgs false
set_option linter.unusedVariables false
open Go.RowKit Go.MapKept Go.Proofs
/-- Where a law begins. -/
theorem Fr.law {w : World} (ht : Tab w) : Fr w.heap.size [] w w := Fr.start (by simp) (Nat.le_refl _) (World.block_lt_of_cell? _ _ (ht 0 (by omega))) ht
set_option maxRecDepth 100000 in
theorem journalNothing_walk (a0 : Int) (a1 : Option Addr) (cap1 : Nat) (l1 : List Nat) (w : World) (ht : Tab w) (w0 : (Lit.int .i64 a0).wf = true) (w1 : Row w a1 l1) (m1 : l1.length ≤ maxLen) (c1 : l1.length ≤ cap1) (n1 : a1 = none → cap1 = 0) :
    Calls Tryd.prog 6 #[.int .i64 a0, .slice a1 l1.length cap1] w fun e w' => e = .returned (.bool true) ∧ Below w.heap.size w w' := by
  have hF := Fr.law ht
  have b1 : Below w.heap.size w (w.alloc (.cells #[.int .i64 a0, .slice a1 l1.length cap1] 49)) := (Below.refl _ _).alloc (Nat.le_refl _) _
  have hcr : CRow (w.alloc (.cells #[.int .i64 a0, .slice a1 l1.length cap1] 49)) (some ⟨w.heap.size, 0, none⟩) [a0] [l1.length] := by
    have e := heap_alloc_new w (.cells #[.int .i64 a0, .slice a1 l1.length cap1] 49)
    refine ⟨rfl, fun i hi => ?_⟩
    obtain rfl : i = 0 := by simp at hi; omega
    refine ⟨w.heap.size, a1, cap1, rfl, ?_, ?_, m1⟩ <;> rw [cell_of_row _ _ _ _ _ _ e] <;> rfl
  have hC := commit_no (jv := none) (cap := 1) (fun _ => false) (fun w' k _ => jhas_nil k w') hcr (by simp) (.inl (by rw [code_bad (i := 0) (by simp) (by simp [badB])]; decide))
  rw [code_bad (i := 0) (by simp) (by simp [badB])] at hC
  have HC : Hid (Calls Tryd.prog 18 #[.pointer none, .slice (some ⟨w.heap.size, 0, none⟩) 1 1] (w.alloc (.cells #[.int .i64 a0, .slice a1 l1.length cap1] 49)) fun e w' => e = .returned (.int .i64 1) ∧ Below (w.alloc (.cells #[.int .i64 a0, .slice a1 l1.length cap1] 49)).heap.size (w.alloc (.cells #[.int .i64 a0, .slice a1 l1.length cap1] 49)) w') := hC
  have HF1 : Hid (Fr w.heap.size [] w (w.alloc (.cells #[.int .i64 a0, .slice a1 l1.length cap1] 49))) := hF.below b1
  clear hC hcr b1 w1 m1 c1 n1 ht
  generalize l1.length = len at *
  go_enter Tryd.func6, Tryd.ntmps6
  go_wp2_with (first
    | (go_at_call 26; refine (jread_nil _ _).mono ?_; rintro e w2 ⟨rfl, hw⟩; subst w2)
    | (go_at_call 18; refine Calls.mono HC.out ?_; rintro e w2 ⟨rfl, hb2⟩; have hF2 := HF1.out.below hb2)
    | (go_at_call 19; refine (sync_nil _).mono ?_; rintro e w3 ⟨rfl, hw⟩; subst w3)
    | (go_at_call 15; refine (awake_any hF2).mono ?_; rintro e w4 ⟨rfl, hF4⟩))
  go_ret
  exact ⟨rfl, hF4.bel⟩
end Go.Proofs.YtmodjgailmpfmaaDoor
