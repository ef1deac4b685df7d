/- append of a row of bytes that came in, nil or not, onto a row of the call's own: one law, guarded or not. -/
import Derived.Test.YtaooidckmepdeaaDoorMem
import Derived.BigFrame
import Derived.Laws.AppendOwnNone
namespace Go.Proofs.YtaooidckmepdeaaDoor
set_option linter.unusedSimpArgs false
set_option linter.unusedVariables false
open Go.RowKit
theorem wpList_append_row {w : World} {ops : Array Oper} {rest : List Oper} {o : Oper} {a : Act} {Q : Exit → Act → World → Prop} (hw : Region.wanted o (yielded ops a.tmps) = true) (s x : Operand)
    (ho : o.op = .call { callee := .builtin .append, args := #[s, x], argTypes := #[29, 29] }) (B : Nat) (w0 : World)
    (v : Value) (n : Nat) (xs : List Value) (hs : a.eval s = v) (hown : w.ownsRow B 5 1 v n xs) (hB : Below B w0 w) (hBs : B ≤ w.heap.size)
    (a' : Option Addr) (cap : Nat) (l : List Nat) (hx : a.eval x = .slice a' l.length cap) (hr : Row w a' l) (hn : a' = none → cap = 0) (h63 : n + l.length ≤ 1000000)
    (h : ∀ v' w', w'.ownsRow B 5 1 v' (n + l.length) (xs ++ cv l) → Below B w0 w' → wpList Tryd.prog ops Q rest (a.put o.dst v') w') : wpList Tryd.prog ops Q (o :: rest) a w := by
  obtain ⟨i0, hi, hz0, hz1, hz2⟩ := info_parts Tryd.info5
  cases a' with
  | none =>
    obtain rfl := row_none hr
    obtain rfl := hn rfl
    refine BigFrame.wpList_want hw fun K hK => ?_
    have hrun := run_append_owned_none (P := Tryd.prog) (w := w) B 29 o.type 5 i0 1 Tryd.underlying29 hi v n xs hown
    have h0 : wpList Tryd.prog ops Q rest (a.put o.dst v) w := h v w (by simpa [cv] using hown) hB
    unfold Oper.wp
    simp [execOp, ho, resolve, invoke, builtin, hs, hx, hrun, Result.andThen]
    exact hK _ _ h0
  | some ad =>
    refine BigFrame.wpList_want hw fun K hK => ?_
    refine wp_append_own w s x 29 ho B 5 i0 (.int .u8 0) 1 1 Tryd.underlying29 hi hz0 hz1 hz2 rfl (by decide) v n xs hs hown ad l.length cap (cv l) hx (by rw [cv_length]; omega) (row_news hr) (cv_one _) (by unfold maxLen; omega) (by omega) hBs ?_
    intro v' w' h2 h3 _
    exact hK _ _ (h v' w' h2 (hB.grown h3 hBs (fun k hk => (hown.lt k hk).1)))
theorem wp_append_row {w : World} {o : Oper} {a : Act} {K : Act → World → Prop} {Q : Exit → Act → World → Prop} (s x : Operand)
    (ho : o.op = .call { callee := .builtin .append, args := #[s, x], argTypes := #[29, 29] }) (B : Nat) (w0 : World)
    (v : Value) (n : Nat) (xs : List Value) (hs : a.eval s = v) (hown : w.ownsRow B 5 1 v n xs) (hB : Below B w0 w) (hBs : B ≤ w.heap.size)
    (a' : Option Addr) (cap : Nat) (l : List Nat) (hx : a.eval x = .slice a' l.length cap) (hr : Row w a' l) (hn : a' = none → cap = 0) (h63 : n + l.length ≤ 1000000)
    (h : ∀ v' w', w'.ownsRow B 5 1 v' (n + l.length) (xs ++ cv l) → Below B w0 w' → K (a.put o.dst v') w') : o.wp Tryd.prog a w K Q := by
  obtain ⟨i0, hi, hz0, hz1, hz2⟩ := info_parts Tryd.info5
  cases a' with
  | none =>
    obtain rfl := row_none hr
    obtain rfl := hn rfl
    have hrun := run_append_owned_none (P := Tryd.prog) (w := w) B 29 o.type 5 i0 1 Tryd.underlying29 hi v n xs hown
    have h0 := h v w (by simpa [cv] using hown) hB
    unfold Oper.wp
    simp [execOp, ho, resolve, invoke, builtin, hs, hx, hrun, Result.andThen]
    exact h0
  | some ad =>
    refine wp_append_own w s x 29 ho B 5 i0 (.int .u8 0) 1 1 Tryd.underlying29 hi hz0 hz1 hz2 rfl (by decide) v n xs hs hown ad l.length cap (cv l) hx (by rw [cv_length]; omega) (row_news hr) (cv_one _) (by unfold maxLen; omega) (by omega) hBs ?_
    intro v' w' h2 h3 _
    exact h v' w' h2 (hB.grown h3 hBs (fun k hk => (hown.lt k hk).1))
end Go.Proofs.YtaooidckmepdeaaDoor
