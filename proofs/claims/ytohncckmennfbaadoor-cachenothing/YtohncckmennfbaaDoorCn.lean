/- CacheNothing's walk. -/
import Derived.Test.YtohncckmennfbaaDoorCf
namespace Go.Proofs.YtohncckmennfbaaDoor
set_option linter.unusedSimpArgs false
set_option linter.unusedVariables false
set_option maxRecDepth 100000
open Go.RowKit Go.MapKept Go.Proofs
/-- Where a law begins. -/
theorem Fr.law {w : World} (ht : Tab w) : Fr w.heap.size [] w w := Fr.start (by simp) (Nat.le_refl _) (World.block_lt_of_cell? _ _ (ht 0 (by omega))) ht
theorem cacheNothing_walk (a0 : Int) (a1 : Option Addr) (cap1 : Nat) (l1 : List Nat) (w : World) (ht : Tab w) (w0 : (Lit.int .i64 a0).wf = true) (w1 : Row w a1 l1) (m1 : l1.length ≤ maxLen) (c1 : l1.length ≤ cap1) (n1 : a1 = none → cap1 = 0) :
    Calls Tryd.prog 4 #[.int .i64 a0, .slice a1 l1.length cap1] w fun e w' => e = .returned (.bool true) ∧ Below w.heap.size w w' := by
  have hF := Fr.law ht
  clear w1 m1 c1 n1 ht
  generalize l1.length = len at *
  go_enter Tryd.func4, Tryd.ntmps4
  go_wp2_with (first
    | (go_at_call 21; refine (cread_nil _ _).mono ?_; rintro e w2 ⟨rfl, hb2⟩; have hF2 := hF.below hb2)
    | (go_at_call 12; refine (cbegin_nil _).mono ?_; rintro e w3 ⟨rfl, hw⟩; subst w3)
    | (go_at_call 13; refine (cwrite_nil _ _ _).mono ?_; rintro e w3 ⟨rfl, hw⟩; subst w3)
    | (go_at_call 16; refine (ccommit_nil _).mono ?_; rintro e w3 ⟨rfl, hw⟩; subst w3)
    | (go_at_call 17; refine (cabort_nil _).mono ?_; rintro e w3 ⟨rfl, hw⟩; subst w3)
    | (go_at_call 19; refine (cdirty_nil _).mono ?_; rintro e w3 ⟨rfl, hw⟩; subst w3)
    | (go_at_call 18; refine (copen_nil _).mono ?_; rintro e w3 ⟨rfl, hw⟩; subst w3)
    | (go_at_call 9; refine (awake_any hF2).mono ?_; rintro e w4 ⟨rfl, hF4⟩))
  go_ret
  exact ⟨rfl, hF4.bel⟩
end Go.Proofs.YtohncckmennfbaaDoor
