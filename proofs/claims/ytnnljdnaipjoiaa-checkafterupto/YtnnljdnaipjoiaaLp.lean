/- The loops of a function, by their numbers. -/
import Derived.Test.YtnnljdnaipjoiaaMem
namespace Go.Proofs.Ytnnljdnaipjoiaa
def loopsOf : Code → List Code
  | .loop c => c :: loopsOf c
  | .seq a b => loopsOf a ++ loopsOf b
  | .block _ c => loopsOf c
  | .scope c => loopsOf c
  | .cond _ a b => loopsOf a ++ loopsOf b
  | _ => []
def nthLoop (n : Nat) (f : Func) : Code := (loopsOf (f.body.getD .skip)).getD n .skip
end Go.Proofs.Ytnnljdnaipjoiaa
