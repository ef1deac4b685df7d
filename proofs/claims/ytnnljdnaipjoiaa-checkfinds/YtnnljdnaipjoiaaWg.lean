/- CheckFinds: for all its arguments. -/
import Derived.Test.YtnnljdnaipjoiaaWf
namespace Go.Proofs.Ytnnljdnaipjoiaa
set_option linter.unusedSimpArgs false
set_option linter.unusedVariables false
open Go.RowKit
theorem i64_wf {n : Int} (h : (Lit.int .i64 n).wf = true) : -9223372036854775808 ≤ n ∧ n ≤ 9223372036854775807 := by
  simpa [Lit.wf, IntKind.min, IntKind.max, IntKind.signed, IntKind.bits] using h
set_option maxRecDepth 100000 in
theorem finds_out (a0 a1 : Int) (w : World) (h : a0 < 2 ∨ 30 < a0) :
    Calls Try.prog 6 #[.int .i64 a0, .int .i64 a1] w fun e w' => e = .returned (.bool true) ∧ Below w.heap.size w w' := by
  have HAWK : Hid (∀ y, Calls Try.prog 9 #[] y fun e w' => e = .returned (.bool true) ∧ Below y.heap.size y w') := fun y => awake_any y
  rcases h with h | h
  · have q : decide (a0 < 2) = true := decide_eq_true h
    go_enter Try.func6, Try.ntmps6
    go_wp2_with (first
      | (go_at_call 9; refine (HAWK.out _).mono ?_; rintro e w2 ⟨rfl, hb2⟩))
    go_ret
    exact ⟨rfl, hb2⟩
  · have q1 : ¬ a0 < 2 := by omega
    have q : decide (30 < a0) = true := decide_eq_true h
    go_enter Try.func6, Try.ntmps6
    go_wp2_with (first
      | (go_at_call 9; refine (HAWK.out _).mono ?_; rintro e w2 ⟨rfl, hb2⟩))
    go_ret
    exact ⟨rfl, hb2⟩
theorem checkFinds_walk (a0 a1 : Int) (w : World) (w0 : (Lit.int .i64 a0).wf = true) (w1 : (Lit.int .i64 a1).wf = true) :
    Calls Try.prog 6 #[.int .i64 a0, .int .i64 a1] w fun e w' => e = .returned (.bool true) ∧ Below w.heap.size w w' := by
  obtain ⟨h1, h2⟩ := i64_wf w1
  by_cases hc : a0 < 2 ∨ 30 < a0
  · exact finds_out a0 a1 w hc
  · obtain ⟨n, rfl⟩ : ∃ n : Nat, a0 = (n : Int) := ⟨a0.toNat, by omega⟩
    exact finds_walk n a1 w (by omega) (by omega) h1 h2
end Go.Proofs.Ytnnljdnaipjoiaa
