/- The document's own text. -/
import Derived.Test.YtaooidckmepdeaaDoorDs
namespace Go.Proofs.YtaooidckmepdeaaDoor
set_option linter.unusedSimpArgs false
set_option linter.unusedVariables false
open Go.RowKit
def okT (q : List Nat) : Bool := !(numN q == 0) && decide (numV q ≤ 2000) && !(txO q)
theorem conv_mid {w : World} {a : Option Addr} {l : List Nat} (cap i n : Nat) (hr : Row w a l) (hl : l.length ≤ cap) (hn : n ≤ l.length - i) (c : Nat) : (convert 29 9 (.slice (cutA a cap i) n c)).run Tryd.prog w = .ok (.string (strN ((l.drop i).take n))) w := by
  have := conv_row c (row_take n (row_cut cap i hr hl))
  rw [show ((l.drop i).take n).length = n by simp; omega] at this
  exact this
end Go.Proofs.YtaooidckmepdeaaDoor
