/-
  NARROWER THAN 'FOR EVERY INPUT', by the rows' own cells (each row's printed sentence says how): LayoutPlans: laid · LayoutBytes: laid · LayoutBack: laid · LayoutAreas: laid · LayoutGrows: laid · LayoutCuts: laid.
  DERIVED. THE GIVEN ROWS OF THIS SEAT. 6 by the template 'for every input the law returns true; each argument reads behind the call as it read before'; 0 by the template 'total and deterministic' (their statements: YtbiniohacnaieaaDoorTotals.lean).
  GIVEN WITH THE SEED: the statements are not yours to turn. If you find one false, say at which input.
  Laid BY PROGRAM, IN A SANDBOX (cutbox-rows.mjs): the forced cells as the released guide's own fill.sh prints them over the translation b7755d34e68a8546… (all of the seat's roots in one cut). By AI agents, Wed Nov 11 2026. No macro, syntax, notation, axiom, sorry.
-/
import Derived.Test.YtbiniohacnaieaaDoorChecked
import GoSem.Claim
import GoSem.ClaimJoined
import GoSem.ClaimMapViews
import Derived.JoinedTies
import Derived.KernelRfl
namespace Go.Proofs.YtbiniohacnaieaaDoor
/- THE CELL 'sum', in the pinned program and in every row, IS THE sha256 OF THE DUMP (.gsa) THAT YtbiniohacnaieaaDoorProg.lean LOADS. Nothing in Lean hashes anything: it is a label: what it is worth is what the hold of that sum in a sandbox is worth. -/
noncomputable def Tryd.pinned : Pinned := { name := "ytbiniohacnaieaadoor", sum := "b7755d34e68a854621572584d5bfadc5073b2bc155e3b303f29758b34c4e357e", checked := Tryd.checked }
namespace Rows
def none {H : Type} : Left H := { results := [], args := [] }

/- WHAT THE LISTED PACKAGE-LEVEL VARIABLES READ AS WHEN THE CALL BEGINS. Each datum BY PROGRAM (the guide's laid-datum.mjs) off the statement by which the dump's own 'gosem.cut.vars' lays the variable. In a bare row this is a premise. The card (YtbiniohacnaieaaDoorCards.lean) ties it to the program's text. -/
def laid_bollard_layout_holds {H : Type} : DataW H := .agg [.lit (.int .i64 4096), .lit (.int .i64 4096), .lit (.int .i64 8)]
def laid_bollard_crc_steps {H : Type} : DataW H := .agg [.lit (.int .u32 0), .lit (.int .u32 274646895), .lit (.int .u32 549293790), .lit (.int .u32 820201905), .lit (.int .u32 1098587580), .lit (.int .u32 1361435347), .lit (.int .u32 1640403810), .lit (.int .u32 1905808397), .lit (.int .u32 2197175160), .lit (.int .u32 2460548119), .lit (.int .u32 2722870694), .lit (.int .u32 2987750089), .lit (.int .u32 3280807620), .lit (.int .u32 3553878443), .lit (.int .u32 3811616794), .lit (.int .u32 4084100981)]

/-- 'bollardlaw6.LayoutPlans': WHATEVER THE INPUT: true; the input reads as it did. -/
def layoutPlansSpec : ChangeSpec := { name := "layoutPlans", fn := fun _ => fun
  | [d1, d2] => { results := [.lit (.bool true)], args := [d1, d2] }
  | _ => none }
def layoutPlansRow : OpenClaim := { program := "ytbiniohacnaieaadoor", sum := "b7755d34e68a854621572584d5bfadc5073b2bc155e3b303f29758b34c4e357e", func := "bollard/bollardlaw6.LayoutPlans", spec := "layoutPlans", named := ["bollard/layout.holds"], apart := false, laid := [("bollard/layout.holds", laid_bollard_layout_holds)] }
def LayoutPlansSaid : Prop := layoutPlansRow.holds Tryd.pinned (OpenSpec.ofChange layoutPlansSpec)

/-- ITS FALSE NEIGHBOUR: 'it returns false'. Refute it at one input. -/
def layoutPlansWrong : ChangeSpec := { name := "layoutPlans", fn := fun _ => fun
  | [d1, d2] => { results := [.lit (.bool false)], args := [d1, d2] }
  | _ => none }
def LayoutPlansWrongFalsely : Prop := layoutPlansRow.holds Tryd.pinned (OpenSpec.ofChange layoutPlansWrong)

/-- 'bollardlaw6.LayoutBytes': WHATEVER THE INPUT: true; the input reads as it did. -/
def layoutBytesSpec : ChangeSpec := { name := "layoutBytes", fn := fun _ => fun
  | [d1, d2] => { results := [.lit (.bool true)], args := [d1, d2] }
  | _ => none }
def layoutBytesRow : OpenClaim := { program := "ytbiniohacnaieaadoor", sum := "b7755d34e68a854621572584d5bfadc5073b2bc155e3b303f29758b34c4e357e", func := "bollard/bollardlaw6.LayoutBytes", spec := "layoutBytes", named := ["bollard/layout.holds", "bollard/crc.steps"], apart := false, laid := [("bollard/crc.steps", laid_bollard_crc_steps), ("bollard/layout.holds", laid_bollard_layout_holds)] }
def LayoutBytesSaid : Prop := layoutBytesRow.holds Tryd.pinned (OpenSpec.ofChange layoutBytesSpec)

/-- ITS FALSE NEIGHBOUR: 'it returns false'. Refute it at one input. -/
def layoutBytesWrong : ChangeSpec := { name := "layoutBytes", fn := fun _ => fun
  | [d1, d2] => { results := [.lit (.bool false)], args := [d1, d2] }
  | _ => none }
def LayoutBytesWrongFalsely : Prop := layoutBytesRow.holds Tryd.pinned (OpenSpec.ofChange layoutBytesWrong)

/-- 'bollardlaw6.LayoutBack': WHATEVER THE INPUT: true; the input reads as it did. -/
def layoutBackSpec : ChangeSpec := { name := "layoutBack", fn := fun _ => fun
  | [d1, d2, d3, d4] => { results := [.lit (.bool true)], args := [d1, d2, d3, d4] }
  | _ => none }
def layoutBackRow : OpenClaim := { program := "ytbiniohacnaieaadoor", sum := "b7755d34e68a854621572584d5bfadc5073b2bc155e3b303f29758b34c4e357e", func := "bollard/bollardlaw6.LayoutBack", spec := "layoutBack", named := ["bollard/layout.holds", "bollard/crc.steps"], apart := false, laid := [("bollard/crc.steps", laid_bollard_crc_steps), ("bollard/layout.holds", laid_bollard_layout_holds)] }
def LayoutBackSaid : Prop := layoutBackRow.holds Tryd.pinned (OpenSpec.ofChange layoutBackSpec)

/-- ITS FALSE NEIGHBOUR: 'it returns false'. Refute it at one input. -/
def layoutBackWrong : ChangeSpec := { name := "layoutBack", fn := fun _ => fun
  | [d1, d2, d3, d4] => { results := [.lit (.bool false)], args := [d1, d2, d3, d4] }
  | _ => none }
def LayoutBackWrongFalsely : Prop := layoutBackRow.holds Tryd.pinned (OpenSpec.ofChange layoutBackWrong)

/-- 'bollardlaw6.LayoutAreas': WHATEVER THE INPUT: true; the input reads as it did. -/
def layoutAreasSpec : ChangeSpec := { name := "layoutAreas", fn := fun _ => fun
  | [d1, d2] => { results := [.lit (.bool true)], args := [d1, d2] }
  | _ => none }
def layoutAreasRow : OpenClaim := { program := "ytbiniohacnaieaadoor", sum := "b7755d34e68a854621572584d5bfadc5073b2bc155e3b303f29758b34c4e357e", func := "bollard/bollardlaw6.LayoutAreas", spec := "layoutAreas", named := ["bollard/layout.holds"], apart := false, laid := [("bollard/layout.holds", laid_bollard_layout_holds)] }
def LayoutAreasSaid : Prop := layoutAreasRow.holds Tryd.pinned (OpenSpec.ofChange layoutAreasSpec)

/-- ITS FALSE NEIGHBOUR: 'it returns false'. Refute it at one input. -/
def layoutAreasWrong : ChangeSpec := { name := "layoutAreas", fn := fun _ => fun
  | [d1, d2] => { results := [.lit (.bool false)], args := [d1, d2] }
  | _ => none }
def LayoutAreasWrongFalsely : Prop := layoutAreasRow.holds Tryd.pinned (OpenSpec.ofChange layoutAreasWrong)

/-- 'bollardlaw6.LayoutGrows': WHATEVER THE INPUT: true; the input reads as it did. -/
def layoutGrowsSpec : ChangeSpec := { name := "layoutGrows", fn := fun _ => fun
  | [d1, d2, d3] => { results := [.lit (.bool true)], args := [d1, d2, d3] }
  | _ => none }
def layoutGrowsRow : OpenClaim := { program := "ytbiniohacnaieaadoor", sum := "b7755d34e68a854621572584d5bfadc5073b2bc155e3b303f29758b34c4e357e", func := "bollard/bollardlaw6.LayoutGrows", spec := "layoutGrows", named := ["bollard/layout.holds"], apart := false, laid := [("bollard/layout.holds", laid_bollard_layout_holds)] }
def LayoutGrowsSaid : Prop := layoutGrowsRow.holds Tryd.pinned (OpenSpec.ofChange layoutGrowsSpec)

/-- ITS FALSE NEIGHBOUR: 'it returns false'. Refute it at one input. -/
def layoutGrowsWrong : ChangeSpec := { name := "layoutGrows", fn := fun _ => fun
  | [d1, d2, d3] => { results := [.lit (.bool false)], args := [d1, d2, d3] }
  | _ => none }
def LayoutGrowsWrongFalsely : Prop := layoutGrowsRow.holds Tryd.pinned (OpenSpec.ofChange layoutGrowsWrong)

/-- 'bollardlaw6.LayoutCuts': WHATEVER THE INPUT: true; the input reads as it did. -/
def layoutCutsSpec : ChangeSpec := { name := "layoutCuts", fn := fun _ => fun
  | [d1, d2, d3] => { results := [.lit (.bool true)], args := [d1, d2, d3] }
  | _ => none }
def layoutCutsRow : OpenClaim := { program := "ytbiniohacnaieaadoor", sum := "b7755d34e68a854621572584d5bfadc5073b2bc155e3b303f29758b34c4e357e", func := "bollard/bollardlaw6.LayoutCuts", spec := "layoutCuts", named := ["bollard/layout.holds", "bollard/crc.steps"], apart := false, laid := [("bollard/crc.steps", laid_bollard_crc_steps), ("bollard/layout.holds", laid_bollard_layout_holds)] }
def LayoutCutsSaid : Prop := layoutCutsRow.holds Tryd.pinned (OpenSpec.ofChange layoutCutsSpec)

/-- ITS FALSE NEIGHBOUR: 'it returns false'. Refute it at one input. -/
def layoutCutsWrong : ChangeSpec := { name := "layoutCuts", fn := fun _ => fun
  | [d1, d2, d3] => { results := [.lit (.bool false)], args := [d1, d2, d3] }
  | _ => none }
def LayoutCutsWrongFalsely : Prop := layoutCutsRow.holds Tryd.pinned (OpenSpec.ofChange layoutCutsWrong)

/- THE SECOND FORM. 'bulk': how many values and letters a reading holds, each counted each time it is reached (what is shared counts as often as it is met; a slice's spare places count too). A statement '..UptoSaid' is the law's where the arguments, and the package variables that the reading takes, are together of bulk at most 1048576: NARROWER than '..Said'. Prove '..Said' where nothing that the law and all that it calls make is longer than what came in: it says more and counts as full. Else prove '..UptoSaid'. A law counts once. -/
mutual
def uptoBulk {H : Type} : DataW H → Nat
  | .lit (.string bytes) => bytes.length + 1
  | .lit _ => 1
  | .nil => 1
  | .ptr d => uptoBulk d + 1
  | .slice elems spare => uptoBulkAll elems + uptoBulkAll spare + 1
  | .agg parts => uptoBulkAll parts + 1
  | .iface _ d => uptoBulk d + 1
  | .map entries => uptoBulkEntries entries + 1
  | .held _ => 1
def uptoBulkAll {H : Type} : List (DataW H) → Nat
  | [] => 0
  | d :: r => uptoBulk d + uptoBulkAll r
def uptoBulkEntries {H : Type} : List (Lit × DataW H) → Nat
  | [] => 0
  | x :: r => uptoBulkEntry x + uptoBulkEntries r
def uptoBulkEntry {H : Type} : Lit × DataW H → Nat
  | (.string bytes, d) => bytes.length + uptoBulk d + 1
  | (_, d) => uptoBulk d + 1
 end
def uptoSmall : (H : Type) → List (DataW H) → Bool := fun _ ds => decide (uptoBulkAll ds ≤ 1048576)
def OpenSpec.upto (s : _root_.Go.ChangeSpec) : _root_.Go.OpenSpec := { _root_.Go.OpenSpec.ofChange s with cond := some uptoSmall }

/-- 'bollardlaw6.LayoutPlans', WHERE WHAT IT READS IS OF BULK AT MOST 1048576: true; the input reads as it did. -/
def layoutPlansUptoRow : OpenClaim := { program := "ytbiniohacnaieaadoor", sum := "b7755d34e68a854621572584d5bfadc5073b2bc155e3b303f29758b34c4e357e", func := "bollard/bollardlaw6.LayoutPlans", spec := "layoutPlans", named := ["bollard/layout.holds"], apart := false, laid := [("bollard/layout.holds", laid_bollard_layout_holds)], narrowed := true }
def LayoutPlansUptoSaid : Prop := layoutPlansUptoRow.holds Tryd.pinned (OpenSpec.upto layoutPlansSpec)

/-- 'bollardlaw6.LayoutBytes', WHERE WHAT IT READS IS OF BULK AT MOST 1048576: true; the input reads as it did. -/
def layoutBytesUptoRow : OpenClaim := { program := "ytbiniohacnaieaadoor", sum := "b7755d34e68a854621572584d5bfadc5073b2bc155e3b303f29758b34c4e357e", func := "bollard/bollardlaw6.LayoutBytes", spec := "layoutBytes", named := ["bollard/layout.holds", "bollard/crc.steps"], apart := false, laid := [("bollard/crc.steps", laid_bollard_crc_steps), ("bollard/layout.holds", laid_bollard_layout_holds)], narrowed := true }
def LayoutBytesUptoSaid : Prop := layoutBytesUptoRow.holds Tryd.pinned (OpenSpec.upto layoutBytesSpec)

/-- 'bollardlaw6.LayoutBack', WHERE WHAT IT READS IS OF BULK AT MOST 1048576: true; the input reads as it did. -/
def layoutBackUptoRow : OpenClaim := { program := "ytbiniohacnaieaadoor", sum := "b7755d34e68a854621572584d5bfadc5073b2bc155e3b303f29758b34c4e357e", func := "bollard/bollardlaw6.LayoutBack", spec := "layoutBack", named := ["bollard/layout.holds", "bollard/crc.steps"], apart := false, laid := [("bollard/crc.steps", laid_bollard_crc_steps), ("bollard/layout.holds", laid_bollard_layout_holds)], narrowed := true }
def LayoutBackUptoSaid : Prop := layoutBackUptoRow.holds Tryd.pinned (OpenSpec.upto layoutBackSpec)

/-- 'bollardlaw6.LayoutAreas', WHERE WHAT IT READS IS OF BULK AT MOST 1048576: true; the input reads as it did. -/
def layoutAreasUptoRow : OpenClaim := { program := "ytbiniohacnaieaadoor", sum := "b7755d34e68a854621572584d5bfadc5073b2bc155e3b303f29758b34c4e357e", func := "bollard/bollardlaw6.LayoutAreas", spec := "layoutAreas", named := ["bollard/layout.holds"], apart := false, laid := [("bollard/layout.holds", laid_bollard_layout_holds)], narrowed := true }
def LayoutAreasUptoSaid : Prop := layoutAreasUptoRow.holds Tryd.pinned (OpenSpec.upto layoutAreasSpec)

/-- 'bollardlaw6.LayoutGrows', WHERE WHAT IT READS IS OF BULK AT MOST 1048576: true; the input reads as it did. -/
def layoutGrowsUptoRow : OpenClaim := { program := "ytbiniohacnaieaadoor", sum := "b7755d34e68a854621572584d5bfadc5073b2bc155e3b303f29758b34c4e357e", func := "bollard/bollardlaw6.LayoutGrows", spec := "layoutGrows", named := ["bollard/layout.holds"], apart := false, laid := [("bollard/layout.holds", laid_bollard_layout_holds)], narrowed := true }
def LayoutGrowsUptoSaid : Prop := layoutGrowsUptoRow.holds Tryd.pinned (OpenSpec.upto layoutGrowsSpec)

/-- 'bollardlaw6.LayoutCuts', WHERE WHAT IT READS IS OF BULK AT MOST 1048576: true; the input reads as it did. -/
def layoutCutsUptoRow : OpenClaim := { program := "ytbiniohacnaieaadoor", sum := "b7755d34e68a854621572584d5bfadc5073b2bc155e3b303f29758b34c4e357e", func := "bollard/bollardlaw6.LayoutCuts", spec := "layoutCuts", named := ["bollard/layout.holds", "bollard/crc.steps"], apart := false, laid := [("bollard/crc.steps", laid_bollard_crc_steps), ("bollard/layout.holds", laid_bollard_layout_holds)], narrowed := true }
def LayoutCutsUptoSaid : Prop := layoutCutsUptoRow.holds Tryd.pinned (OpenSpec.upto layoutCutsSpec)

end Rows
end Go.Proofs.YtbiniohacnaieaaDoor
