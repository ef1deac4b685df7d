/-
  NARROWER THAN 'FOR EVERY INPUT', by the rows' own cells (each row's printed sentence says how): BatchEncodes: laid · BatchDecodes: laid · BatchMoves: laid · BatchFresh: laid · BatchBack: laid · BatchFlips: laid · BatchRows: laid · BatchCounts: laid.
  DERIVED. THE GIVEN ROWS OF THIS SEAT. 8 by the template 'for every input the law returns true; each argument reads behind the call as it read before'; 0 by the template 'total and deterministic' (their statements: YtgpeldmplkijlaaDoorTotals.lean).
  GIVEN WITH THE SEED: the statements are not yours to turn. If you find one false, say at which input.
  Laid BY PROGRAM, IN A SANDBOX (cutbox-rows.mjs): the forced cells as the released guide's own fill.sh prints them over the translation cd08a4f4c5a25059… (all of the seat's roots in one cut). By AI agents, Wed Nov 11 2026. No macro, syntax, notation, axiom, sorry.
-/
import Derived.Test.YtgpeldmplkijlaaDoorChecked
import GoSem.Claim
import GoSem.ClaimJoined
import GoSem.ClaimMapViews
import Derived.JoinedTies
import Derived.KernelRfl
namespace Go.Proofs.YtgpeldmplkijlaaDoor
/- THE CELL 'sum', in the pinned program and in every row, IS THE sha256 OF THE DUMP (.gsa) THAT YtgpeldmplkijlaaDoorProg.lean LOADS. Nothing in Lean hashes anything: it is a label: what it is worth is what the hold of that sum in a sandbox is worth. -/
noncomputable def Tryd.pinned : Pinned := { name := "ytgpeldmplkijlaadoor", sum := "cd08a4f4c5a25059620137a3c0af3f38b34a4a532550d39a372efb4fd95713a2", checked := Tryd.checked }
namespace Rows
def none {H : Type} : Left H := { results := [], args := [] }

/- WHAT THE LISTED PACKAGE-LEVEL VARIABLES READ AS WHEN THE CALL BEGINS. Each datum BY PROGRAM (the guide's laid-datum.mjs) off the statement by which the dump's own 'gosem.cut.vars' lays the variable. In a bare row this is a premise. The card (YtgpeldmplkijlaaDoorCards.lean) ties it to the program's text. -/
def laid_bollard_crc_steps {H : Type} : DataW H := .agg [.lit (.int .u32 0), .lit (.int .u32 274646895), .lit (.int .u32 549293790), .lit (.int .u32 820201905), .lit (.int .u32 1098587580), .lit (.int .u32 1361435347), .lit (.int .u32 1640403810), .lit (.int .u32 1905808397), .lit (.int .u32 2197175160), .lit (.int .u32 2460548119), .lit (.int .u32 2722870694), .lit (.int .u32 2987750089), .lit (.int .u32 3280807620), .lit (.int .u32 3553878443), .lit (.int .u32 3811616794), .lit (.int .u32 4084100981)]

/-- 'bollardlaw13.BatchEncodes': WHATEVER THE INPUT: true; the input reads as it did. -/
def batchEncodesSpec : ChangeSpec := { name := "batchEncodes", fn := fun _ => fun
  | [d] => { results := [.lit (.bool true)], args := [d] }
  | _ => none }
def batchEncodesRow : OpenClaim := { program := "ytgpeldmplkijlaadoor", sum := "cd08a4f4c5a25059620137a3c0af3f38b34a4a532550d39a372efb4fd95713a2", func := "bollard/bollardlaw13.BatchEncodes", spec := "batchEncodes", named := ["bollard/crc.steps"], apart := false, laid := [("bollard/crc.steps", laid_bollard_crc_steps)] }
def BatchEncodesSaid : Prop := batchEncodesRow.holds Tryd.pinned (OpenSpec.ofChange batchEncodesSpec)

/-- ITS FALSE NEIGHBOUR: 'it returns false'. Refute it at one input. -/
def batchEncodesWrong : ChangeSpec := { name := "batchEncodes", fn := fun _ => fun
  | [d] => { results := [.lit (.bool false)], args := [d] }
  | _ => none }
def BatchEncodesWrongFalsely : Prop := batchEncodesRow.holds Tryd.pinned (OpenSpec.ofChange batchEncodesWrong)

/-- 'bollardlaw13.BatchDecodes': WHATEVER THE INPUT: true; the input reads as it did. -/
def batchDecodesSpec : ChangeSpec := { name := "batchDecodes", fn := fun _ => fun
  | [d] => { results := [.lit (.bool true)], args := [d] }
  | _ => none }
def batchDecodesRow : OpenClaim := { program := "ytgpeldmplkijlaadoor", sum := "cd08a4f4c5a25059620137a3c0af3f38b34a4a532550d39a372efb4fd95713a2", func := "bollard/bollardlaw13.BatchDecodes", spec := "batchDecodes", recurses := true, named := ["bollard/crc.steps"], apart := false, laid := [("bollard/crc.steps", laid_bollard_crc_steps)] }
def BatchDecodesSaid : Prop := batchDecodesRow.holds Tryd.pinned (OpenSpec.ofChange batchDecodesSpec)

/-- ITS FALSE NEIGHBOUR: 'it returns false'. Refute it at one input. -/
def batchDecodesWrong : ChangeSpec := { name := "batchDecodes", fn := fun _ => fun
  | [d] => { results := [.lit (.bool false)], args := [d] }
  | _ => none }
def BatchDecodesWrongFalsely : Prop := batchDecodesRow.holds Tryd.pinned (OpenSpec.ofChange batchDecodesWrong)

/-- 'bollardlaw13.BatchMoves': WHATEVER THE INPUT: true; the input reads as it did. -/
def batchMovesSpec : ChangeSpec := { name := "batchMoves", fn := fun _ => fun
  | [d1, d2] => { results := [.lit (.bool true)], args := [d1, d2] }
  | _ => none }
def batchMovesRow : OpenClaim := { program := "ytgpeldmplkijlaadoor", sum := "cd08a4f4c5a25059620137a3c0af3f38b34a4a532550d39a372efb4fd95713a2", func := "bollard/bollardlaw13.BatchMoves", spec := "batchMoves", recurses := true, named := ["bollard/crc.steps"], apart := false, laid := [("bollard/crc.steps", laid_bollard_crc_steps)] }
def BatchMovesSaid : Prop := batchMovesRow.holds Tryd.pinned (OpenSpec.ofChange batchMovesSpec)

/-- ITS FALSE NEIGHBOUR: 'it returns false'. Refute it at one input. -/
def batchMovesWrong : ChangeSpec := { name := "batchMoves", fn := fun _ => fun
  | [d1, d2] => { results := [.lit (.bool false)], args := [d1, d2] }
  | _ => none }
def BatchMovesWrongFalsely : Prop := batchMovesRow.holds Tryd.pinned (OpenSpec.ofChange batchMovesWrong)

/-- 'bollardlaw13.BatchFresh': WHATEVER THE INPUT: true; the input reads as it did. -/
def batchFreshSpec : ChangeSpec := { name := "batchFresh", fn := fun _ => fun
  | [d1, d2, d3, d4] => { results := [.lit (.bool true)], args := [d1, d2, d3, d4] }
  | _ => none }
def batchFreshRow : OpenClaim := { program := "ytgpeldmplkijlaadoor", sum := "cd08a4f4c5a25059620137a3c0af3f38b34a4a532550d39a372efb4fd95713a2", func := "bollard/bollardlaw13.BatchFresh", spec := "batchFresh", named := ["bollard/crc.steps"], apart := false, laid := [("bollard/crc.steps", laid_bollard_crc_steps)] }
def BatchFreshSaid : Prop := batchFreshRow.holds Tryd.pinned (OpenSpec.ofChange batchFreshSpec)

/-- ITS FALSE NEIGHBOUR: 'it returns false'. Refute it at one input. -/
def batchFreshWrong : ChangeSpec := { name := "batchFresh", fn := fun _ => fun
  | [d1, d2, d3, d4] => { results := [.lit (.bool false)], args := [d1, d2, d3, d4] }
  | _ => none }
def BatchFreshWrongFalsely : Prop := batchFreshRow.holds Tryd.pinned (OpenSpec.ofChange batchFreshWrong)

/-- 'bollardlaw13.BatchBack': WHATEVER THE INPUT: true; the input reads as it did. -/
def batchBackSpec : ChangeSpec := { name := "batchBack", fn := fun _ => fun
  | [d1, d2, d3] => { results := [.lit (.bool true)], args := [d1, d2, d3] }
  | _ => none }
def batchBackRow : OpenClaim := { program := "ytgpeldmplkijlaadoor", sum := "cd08a4f4c5a25059620137a3c0af3f38b34a4a532550d39a372efb4fd95713a2", func := "bollard/bollardlaw13.BatchBack", spec := "batchBack", named := ["bollard/crc.steps"], apart := false, laid := [("bollard/crc.steps", laid_bollard_crc_steps)] }
def BatchBackSaid : Prop := batchBackRow.holds Tryd.pinned (OpenSpec.ofChange batchBackSpec)

/-- ITS FALSE NEIGHBOUR: 'it returns false'. Refute it at one input. -/
def batchBackWrong : ChangeSpec := { name := "batchBack", fn := fun _ => fun
  | [d1, d2, d3] => { results := [.lit (.bool false)], args := [d1, d2, d3] }
  | _ => none }
def BatchBackWrongFalsely : Prop := batchBackRow.holds Tryd.pinned (OpenSpec.ofChange batchBackWrong)

/-- 'bollardlaw13.BatchFlips': WHATEVER THE INPUT: true; the input reads as it did. -/
def batchFlipsSpec : ChangeSpec := { name := "batchFlips", fn := fun _ => fun
  | [d1, d2, d3, d4] => { results := [.lit (.bool true)], args := [d1, d2, d3, d4] }
  | _ => none }
def batchFlipsRow : OpenClaim := { program := "ytgpeldmplkijlaadoor", sum := "cd08a4f4c5a25059620137a3c0af3f38b34a4a532550d39a372efb4fd95713a2", func := "bollard/bollardlaw13.BatchFlips", spec := "batchFlips", named := ["bollard/crc.steps"], apart := false, laid := [("bollard/crc.steps", laid_bollard_crc_steps)] }
def BatchFlipsSaid : Prop := batchFlipsRow.holds Tryd.pinned (OpenSpec.ofChange batchFlipsSpec)

/-- ITS FALSE NEIGHBOUR: 'it returns false'. Refute it at one input. -/
def batchFlipsWrong : ChangeSpec := { name := "batchFlips", fn := fun _ => fun
  | [d1, d2, d3, d4] => { results := [.lit (.bool false)], args := [d1, d2, d3, d4] }
  | _ => none }
def BatchFlipsWrongFalsely : Prop := batchFlipsRow.holds Tryd.pinned (OpenSpec.ofChange batchFlipsWrong)

/-- 'bollardlaw13.BatchRows': WHATEVER THE INPUT: true; the input reads as it did. -/
def batchRowsSpec : ChangeSpec := { name := "batchRows", fn := fun _ => fun
  | [d] => { results := [.lit (.bool true)], args := [d] }
  | _ => none }
def batchRowsRow : OpenClaim := { program := "ytgpeldmplkijlaadoor", sum := "cd08a4f4c5a25059620137a3c0af3f38b34a4a532550d39a372efb4fd95713a2", func := "bollard/bollardlaw13.BatchRows", spec := "batchRows", named := ["bollard/crc.steps"], apart := false, laid := [("bollard/crc.steps", laid_bollard_crc_steps)] }
def BatchRowsSaid : Prop := batchRowsRow.holds Tryd.pinned (OpenSpec.ofChange batchRowsSpec)

/-- ITS FALSE NEIGHBOUR: 'it returns false'. Refute it at one input. -/
def batchRowsWrong : ChangeSpec := { name := "batchRows", fn := fun _ => fun
  | [d] => { results := [.lit (.bool false)], args := [d] }
  | _ => none }
def BatchRowsWrongFalsely : Prop := batchRowsRow.holds Tryd.pinned (OpenSpec.ofChange batchRowsWrong)

/-- 'bollardlaw13.BatchCounts': WHATEVER THE INPUT: true; the input reads as it did. -/
def batchCountsSpec : ChangeSpec := { name := "batchCounts", fn := fun _ => fun
  | [d1, d2] => { results := [.lit (.bool true)], args := [d1, d2] }
  | _ => none }
def batchCountsRow : OpenClaim := { program := "ytgpeldmplkijlaadoor", sum := "cd08a4f4c5a25059620137a3c0af3f38b34a4a532550d39a372efb4fd95713a2", func := "bollard/bollardlaw13.BatchCounts", spec := "batchCounts", named := ["bollard/crc.steps"], apart := false, laid := [("bollard/crc.steps", laid_bollard_crc_steps)] }
def BatchCountsSaid : Prop := batchCountsRow.holds Tryd.pinned (OpenSpec.ofChange batchCountsSpec)

/-- ITS FALSE NEIGHBOUR: 'it returns false'. Refute it at one input. -/
def batchCountsWrong : ChangeSpec := { name := "batchCounts", fn := fun _ => fun
  | [d1, d2] => { results := [.lit (.bool false)], args := [d1, d2] }
  | _ => none }
def BatchCountsWrongFalsely : Prop := batchCountsRow.holds Tryd.pinned (OpenSpec.ofChange batchCountsWrong)

/- THE SECOND FORM. 'bulk': how many values and letters a reading holds, each counted each time it is reached (what is shared counts as often as it is met; a slice's spare places count too). A statement '..UptoSaid' is the law's where the arguments, and the package variables that the reading takes, are together of bulk at most 1048576: NARROWER than '..Said'. Prove '..Said' where nothing that the law and all that it calls make is longer than what came in: it says more and counts as full. Else prove '..UptoSaid'. A law counts once. -/
mutual
def uptoBulk {H : Type} : DataW H → Nat
  | .lit (.string bytes) => bytes.length + 1
  | .lit _ => 1
  | .nil => 1
  | .ptr d => uptoBulk d + 1
  | .slice elems spare => uptoBulkAll elems + uptoBulkAll spare + 1
  | .agg parts => uptoBulkAll parts + 1
  | .iface _ d => uptoBulk d + 1
  | .map entries => uptoBulkEntries entries + 1
  | .held _ => 1
def uptoBulkAll {H : Type} : List (DataW H) → Nat
  | [] => 0
  | d :: r => uptoBulk d + uptoBulkAll r
def uptoBulkEntries {H : Type} : List (Lit × DataW H) → Nat
  | [] => 0
  | x :: r => uptoBulkEntry x + uptoBulkEntries r
def uptoBulkEntry {H : Type} : Lit × DataW H → Nat
  | (.string bytes, d) => bytes.length + uptoBulk d + 1
  | (_, d) => uptoBulk d + 1
 end
def uptoSmall : (H : Type) → List (DataW H) → Bool := fun _ ds => decide (uptoBulkAll ds ≤ 1048576)
def OpenSpec.upto (s : _root_.Go.ChangeSpec) : _root_.Go.OpenSpec := { _root_.Go.OpenSpec.ofChange s with cond := some uptoSmall }

/-- 'bollardlaw13.BatchEncodes', WHERE WHAT IT READS IS OF BULK AT MOST 1048576: true; the input reads as it did. -/
def batchEncodesUptoRow : OpenClaim := { program := "ytgpeldmplkijlaadoor", sum := "cd08a4f4c5a25059620137a3c0af3f38b34a4a532550d39a372efb4fd95713a2", func := "bollard/bollardlaw13.BatchEncodes", spec := "batchEncodes", named := ["bollard/crc.steps"], apart := false, laid := [("bollard/crc.steps", laid_bollard_crc_steps)], narrowed := true }
def BatchEncodesUptoSaid : Prop := batchEncodesUptoRow.holds Tryd.pinned (OpenSpec.upto batchEncodesSpec)

/-- 'bollardlaw13.BatchDecodes', WHERE WHAT IT READS IS OF BULK AT MOST 1048576: true; the input reads as it did. -/
def batchDecodesUptoRow : OpenClaim := { program := "ytgpeldmplkijlaadoor", sum := "cd08a4f4c5a25059620137a3c0af3f38b34a4a532550d39a372efb4fd95713a2", func := "bollard/bollardlaw13.BatchDecodes", spec := "batchDecodes", recurses := true, named := ["bollard/crc.steps"], apart := false, laid := [("bollard/crc.steps", laid_bollard_crc_steps)], narrowed := true }
def BatchDecodesUptoSaid : Prop := batchDecodesUptoRow.holds Tryd.pinned (OpenSpec.upto batchDecodesSpec)

/-- 'bollardlaw13.BatchMoves', WHERE WHAT IT READS IS OF BULK AT MOST 1048576: true; the input reads as it did. -/
def batchMovesUptoRow : OpenClaim := { program := "ytgpeldmplkijlaadoor", sum := "cd08a4f4c5a25059620137a3c0af3f38b34a4a532550d39a372efb4fd95713a2", func := "bollard/bollardlaw13.BatchMoves", spec := "batchMoves", recurses := true, named := ["bollard/crc.steps"], apart := false, laid := [("bollard/crc.steps", laid_bollard_crc_steps)], narrowed := true }
def BatchMovesUptoSaid : Prop := batchMovesUptoRow.holds Tryd.pinned (OpenSpec.upto batchMovesSpec)

/-- 'bollardlaw13.BatchFresh', WHERE WHAT IT READS IS OF BULK AT MOST 1048576: true; the input reads as it did. -/
def batchFreshUptoRow : OpenClaim := { program := "ytgpeldmplkijlaadoor", sum := "cd08a4f4c5a25059620137a3c0af3f38b34a4a532550d39a372efb4fd95713a2", func := "bollard/bollardlaw13.BatchFresh", spec := "batchFresh", named := ["bollard/crc.steps"], apart := false, laid := [("bollard/crc.steps", laid_bollard_crc_steps)], narrowed := true }
def BatchFreshUptoSaid : Prop := batchFreshUptoRow.holds Tryd.pinned (OpenSpec.upto batchFreshSpec)

/-- 'bollardlaw13.BatchBack', WHERE WHAT IT READS IS OF BULK AT MOST 1048576: true; the input reads as it did. -/
def batchBackUptoRow : OpenClaim := { program := "ytgpeldmplkijlaadoor", sum := "cd08a4f4c5a25059620137a3c0af3f38b34a4a532550d39a372efb4fd95713a2", func := "bollard/bollardlaw13.BatchBack", spec := "batchBack", named := ["bollard/crc.steps"], apart := false, laid := [("bollard/crc.steps", laid_bollard_crc_steps)], narrowed := true }
def BatchBackUptoSaid : Prop := batchBackUptoRow.holds Tryd.pinned (OpenSpec.upto batchBackSpec)

/-- 'bollardlaw13.BatchFlips', WHERE WHAT IT READS IS OF BULK AT MOST 1048576: true; the input reads as it did. -/
def batchFlipsUptoRow : OpenClaim := { program := "ytgpeldmplkijlaadoor", sum := "cd08a4f4c5a25059620137a3c0af3f38b34a4a532550d39a372efb4fd95713a2", func := "bollard/bollardlaw13.BatchFlips", spec := "batchFlips", named := ["bollard/crc.steps"], apart := false, laid := [("bollard/crc.steps", laid_bollard_crc_steps)], narrowed := true }
def BatchFlipsUptoSaid : Prop := batchFlipsUptoRow.holds Tryd.pinned (OpenSpec.upto batchFlipsSpec)

/-- 'bollardlaw13.BatchRows', WHERE WHAT IT READS IS OF BULK AT MOST 1048576: true; the input reads as it did. -/
def batchRowsUptoRow : OpenClaim := { program := "ytgpeldmplkijlaadoor", sum := "cd08a4f4c5a25059620137a3c0af3f38b34a4a532550d39a372efb4fd95713a2", func := "bollard/bollardlaw13.BatchRows", spec := "batchRows", named := ["bollard/crc.steps"], apart := false, laid := [("bollard/crc.steps", laid_bollard_crc_steps)], narrowed := true }
def BatchRowsUptoSaid : Prop := batchRowsUptoRow.holds Tryd.pinned (OpenSpec.upto batchRowsSpec)

/-- 'bollardlaw13.BatchCounts', WHERE WHAT IT READS IS OF BULK AT MOST 1048576: true; the input reads as it did. -/
def batchCountsUptoRow : OpenClaim := { program := "ytgpeldmplkijlaadoor", sum := "cd08a4f4c5a25059620137a3c0af3f38b34a4a532550d39a372efb4fd95713a2", func := "bollard/bollardlaw13.BatchCounts", spec := "batchCounts", named := ["bollard/crc.steps"], apart := false, laid := [("bollard/crc.steps", laid_bollard_crc_steps)], narrowed := true }
def BatchCountsUptoSaid : Prop := batchCountsUptoRow.holds Tryd.pinned (OpenSpec.upto batchCountsSpec)

end Rows
end Go.Proofs.YtgpeldmplkijlaaDoor
