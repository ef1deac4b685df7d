/- batch's Decode, of any bytes. -/
import Derived.Test.YtgpeldmplkijlaaDoorDk
import Derived.Test.YtgpeldmplkijlaaDoorDl
import Derived.Test.YtgpeldmplkijlaaDoorDm
import Derived.Test.YtgpeldmplkijlaaDoorDn
import Derived.Test.YtgpeldmplkijlaaDoorDo
import Derived.Test.YtgpeldmplkijlaaDoorDp
namespace Go.Proofs.YtgpeldmplkijlaaDoor
set_option linter.unusedSimpArgs false
set_option linter.unusedVariables false
open Go.RowKit
theorem bdecode_any (a : Option Addr) (cap : Nat) (l : List Nat) (w : World) (ht : Tab w) (hr : Row w a l) (hl : l.length ≤ cap) (hc : cap ≤ maxLen) (hl2 : l.length ≤ 100000) :
    Calls Tryd.prog 18 #[.slice a l.length cap] w fun e w' => (OkB l → ∃ a' c', e = .returned (.tuple #[bav (bOf l) a' c', .int .i64 ((lenN l : Nat) : Int), .int .i64 0]) ∧ RRow w' a' (bOf l).rs ∧ (a' = none → c' = 0)) ∧ (¬ OkB l → e = .returned (.tuple #[bav bz none 0, .int .i64 0, .int .i64 10])) ∧ Below w.heap.size w w' := by
  by_cases h48 : l.length < 48
  · exact bdecode_short a cap l w ht hr hl hc hl2 h48
  have h48' : 48 ≤ l.length := Nat.not_lt.1 h48
  by_cases hsz : 48 ≤ lenN l ∧ lenN l ≤ l.length ∧ lenN l ≤ 6000
  · by_cases hsum : P.sum ((l.take (lenN l)).drop 16) = getV l 12 4 true
    · by_cases gA : AllOk (partOf l) (frsOf l) (cntOf l)
      · by_cases gR : rest (partOf l) (frsOf l) (cntOf l) = []
        · by_cases g5 : wrE (bOf l) = 0
          · by_cases g6 : frs (bOf l) = frsOf l
            · exact bdecode_good a cap l w ht hr hl hc hl2 h48' hsz hsum gA gR g5 g6 ⟨h48', hsz.1, hsz.2.1, hsz.2.2, hsum, gA, gR, g5, g6⟩
            · exact bdecode_fst a cap l w ht hr hl hc hl2 h48' hsz hsum gA gR g5 g6
          · exact bdecode_wr a cap l w ht hr hl hc hl2 h48' hsz hsum gA gR g5
        · exact bdecode_rest a cap l w ht hr hl hc hl2 h48' hsz hsum gA gR
      · exact bdecode_none a cap l w ht hr hl hc hl2 h48' hsz hsum gA
    · exact bdecode_sum a cap l w ht hr hl hc hl2 h48' hsz hsum
  · refine bdecode_size a cap l w ht hr hl hc hl2 h48' ?_
    generalize lenN l = n at *
    omega
end Go.Proofs.YtgpeldmplkijlaaDoor
