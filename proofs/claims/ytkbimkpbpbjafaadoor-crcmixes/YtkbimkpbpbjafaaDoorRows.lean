/-
  NARROWER THAN 'FOR EVERY INPUT', by the rows' own cells (each row's printed sentence says how): CrcSums: laid · CrcJoins: laid · CrcLong: laid · CrcFlips: laid · CrcPieces: laid · CrcMixes: laid.
  DERIVED. THE GIVEN ROWS OF THIS SEAT. 6 by the template 'for every input the law returns true; each argument reads behind the call as it read before'; 0 by the template 'total and deterministic' (their statements: YtkbimkpbpbjafaaDoorTotals.lean).
  GIVEN WITH THE SEED: the statements are not yours to turn. If you find one false, say at which input.
  Laid BY PROGRAM, IN A SANDBOX (cutbox-rows.mjs): the forced cells as the released guide's own fill.sh prints them over the translation a61096c86183291f… (all of the seat's roots in one cut). By AI agents, Wed Nov 11 2026. No macro, syntax, notation, axiom, sorry.
-/
import Derived.Test.YtkbimkpbpbjafaaDoorChecked
import GoSem.Claim
import GoSem.ClaimJoined
import GoSem.ClaimMapViews
import Derived.JoinedTies
import Derived.KernelRfl
namespace Go.Proofs.YtkbimkpbpbjafaaDoor
/- THE CELL 'sum', in the pinned program and in every row, IS THE sha256 OF THE DUMP (.gsa) THAT YtkbimkpbpbjafaaDoorProg.lean LOADS. Nothing in Lean hashes anything: it is a label: what it is worth is what the hold of that sum in a sandbox is worth. -/
noncomputable def Tryd.pinned : Pinned := { name := "ytkbimkpbpbjafaadoor", sum := "a61096c86183291f8cca67645eecc83554fb910be93a65ea7dfe1244a26e78d6", checked := Tryd.checked }
namespace Rows
def none {H : Type} : Left H := { results := [], args := [] }

/- WHAT THE LISTED PACKAGE-LEVEL VARIABLES READ AS WHEN THE CALL BEGINS. Each datum BY PROGRAM (the guide's laid-datum.mjs) off the statement by which the dump's own 'gosem.cut.vars' lays the variable. In a bare row this is a premise. The card (YtkbimkpbpbjafaaDoorCards.lean) ties it to the program's text. -/
def laid_bollard_crc_steps {H : Type} : DataW H := .agg [.lit (.int .u32 0), .lit (.int .u32 274646895), .lit (.int .u32 549293790), .lit (.int .u32 820201905), .lit (.int .u32 1098587580), .lit (.int .u32 1361435347), .lit (.int .u32 1640403810), .lit (.int .u32 1905808397), .lit (.int .u32 2197175160), .lit (.int .u32 2460548119), .lit (.int .u32 2722870694), .lit (.int .u32 2987750089), .lit (.int .u32 3280807620), .lit (.int .u32 3553878443), .lit (.int .u32 3811616794), .lit (.int .u32 4084100981)]

/-- 'bollardlaw2.CrcSums': WHATEVER THE INPUT: true; the input reads as it did. -/
def crcSumsSpec : ChangeSpec := { name := "crcSums", fn := fun _ => fun
  | [d1, d2, d3] => { results := [.lit (.bool true)], args := [d1, d2, d3] }
  | _ => none }
def crcSumsRow : OpenClaim := { program := "ytkbimkpbpbjafaadoor", sum := "a61096c86183291f8cca67645eecc83554fb910be93a65ea7dfe1244a26e78d6", func := "bollard/bollardlaw2.CrcSums", spec := "crcSums", named := ["bollard/crc.steps"], apart := false, laid := [("bollard/crc.steps", laid_bollard_crc_steps)] }
def CrcSumsSaid : Prop := crcSumsRow.holds Tryd.pinned (OpenSpec.ofChange crcSumsSpec)

/-- ITS FALSE NEIGHBOUR: 'it returns false'. Refute it at one input. -/
def crcSumsWrong : ChangeSpec := { name := "crcSums", fn := fun _ => fun
  | [d1, d2, d3] => { results := [.lit (.bool false)], args := [d1, d2, d3] }
  | _ => none }
def CrcSumsWrongFalsely : Prop := crcSumsRow.holds Tryd.pinned (OpenSpec.ofChange crcSumsWrong)

/-- 'bollardlaw2.CrcJoins': WHATEVER THE INPUT: true; the input reads as it did. -/
def crcJoinsSpec : ChangeSpec := { name := "crcJoins", fn := fun _ => fun
  | [d1, d2, d3, d4, d5] => { results := [.lit (.bool true)], args := [d1, d2, d3, d4, d5] }
  | _ => none }
def crcJoinsRow : OpenClaim := { program := "ytkbimkpbpbjafaadoor", sum := "a61096c86183291f8cca67645eecc83554fb910be93a65ea7dfe1244a26e78d6", func := "bollard/bollardlaw2.CrcJoins", spec := "crcJoins", named := ["bollard/crc.steps"], apart := false, laid := [("bollard/crc.steps", laid_bollard_crc_steps)] }
def CrcJoinsSaid : Prop := crcJoinsRow.holds Tryd.pinned (OpenSpec.ofChange crcJoinsSpec)

/-- ITS FALSE NEIGHBOUR: 'it returns false'. Refute it at one input. -/
def crcJoinsWrong : ChangeSpec := { name := "crcJoins", fn := fun _ => fun
  | [d1, d2, d3, d4, d5] => { results := [.lit (.bool false)], args := [d1, d2, d3, d4, d5] }
  | _ => none }
def CrcJoinsWrongFalsely : Prop := crcJoinsRow.holds Tryd.pinned (OpenSpec.ofChange crcJoinsWrong)

/-- 'bollardlaw2.CrcLong': WHATEVER THE INPUT: true; the input reads as it did. -/
def crcLongSpec : ChangeSpec := { name := "crcLong", fn := fun _ => fun
  | [d1, d2] => { results := [.lit (.bool true)], args := [d1, d2] }
  | _ => none }
def crcLongRow : OpenClaim := { program := "ytkbimkpbpbjafaadoor", sum := "a61096c86183291f8cca67645eecc83554fb910be93a65ea7dfe1244a26e78d6", func := "bollard/bollardlaw2.CrcLong", spec := "crcLong", named := ["bollard/crc.steps"], apart := false, laid := [("bollard/crc.steps", laid_bollard_crc_steps)] }
def CrcLongSaid : Prop := crcLongRow.holds Tryd.pinned (OpenSpec.ofChange crcLongSpec)

/-- ITS FALSE NEIGHBOUR: 'it returns false'. Refute it at one input. -/
def crcLongWrong : ChangeSpec := { name := "crcLong", fn := fun _ => fun
  | [d1, d2] => { results := [.lit (.bool false)], args := [d1, d2] }
  | _ => none }
def CrcLongWrongFalsely : Prop := crcLongRow.holds Tryd.pinned (OpenSpec.ofChange crcLongWrong)

/-- 'bollardlaw2.CrcFlips': WHATEVER THE INPUT: true; the input reads as it did. -/
def crcFlipsSpec : ChangeSpec := { name := "crcFlips", fn := fun _ => fun
  | [d1, d2, d3] => { results := [.lit (.bool true)], args := [d1, d2, d3] }
  | _ => none }
def crcFlipsRow : OpenClaim := { program := "ytkbimkpbpbjafaadoor", sum := "a61096c86183291f8cca67645eecc83554fb910be93a65ea7dfe1244a26e78d6", func := "bollard/bollardlaw2.CrcFlips", spec := "crcFlips", named := ["bollard/crc.steps"], apart := false, laid := [("bollard/crc.steps", laid_bollard_crc_steps)] }
def CrcFlipsSaid : Prop := crcFlipsRow.holds Tryd.pinned (OpenSpec.ofChange crcFlipsSpec)

/-- ITS FALSE NEIGHBOUR: 'it returns false'. Refute it at one input. -/
def crcFlipsWrong : ChangeSpec := { name := "crcFlips", fn := fun _ => fun
  | [d1, d2, d3] => { results := [.lit (.bool false)], args := [d1, d2, d3] }
  | _ => none }
def CrcFlipsWrongFalsely : Prop := crcFlipsRow.holds Tryd.pinned (OpenSpec.ofChange crcFlipsWrong)

/-- 'bollardlaw2.CrcPieces': WHATEVER THE INPUT: true; the input reads as it did. -/
def crcPiecesSpec : ChangeSpec := { name := "crcPieces", fn := fun _ => fun
  | [d1, d2] => { results := [.lit (.bool true)], args := [d1, d2] }
  | _ => none }
def crcPiecesRow : OpenClaim := { program := "ytkbimkpbpbjafaadoor", sum := "a61096c86183291f8cca67645eecc83554fb910be93a65ea7dfe1244a26e78d6", func := "bollard/bollardlaw2.CrcPieces", spec := "crcPieces", named := ["bollard/crc.steps"], apart := false, laid := [("bollard/crc.steps", laid_bollard_crc_steps)] }
def CrcPiecesSaid : Prop := crcPiecesRow.holds Tryd.pinned (OpenSpec.ofChange crcPiecesSpec)

/-- ITS FALSE NEIGHBOUR: 'it returns false'. Refute it at one input. -/
def crcPiecesWrong : ChangeSpec := { name := "crcPieces", fn := fun _ => fun
  | [d1, d2] => { results := [.lit (.bool false)], args := [d1, d2] }
  | _ => none }
def CrcPiecesWrongFalsely : Prop := crcPiecesRow.holds Tryd.pinned (OpenSpec.ofChange crcPiecesWrong)

/-- 'bollardlaw2.CrcMixes': WHATEVER THE INPUT: true; the input reads as it did. -/
def crcMixesSpec : ChangeSpec := { name := "crcMixes", fn := fun _ => fun
  | [d1, d2, d3] => { results := [.lit (.bool true)], args := [d1, d2, d3] }
  | _ => none }
def crcMixesRow : OpenClaim := { program := "ytkbimkpbpbjafaadoor", sum := "a61096c86183291f8cca67645eecc83554fb910be93a65ea7dfe1244a26e78d6", func := "bollard/bollardlaw2.CrcMixes", spec := "crcMixes", named := ["bollard/crc.steps"], apart := false, laid := [("bollard/crc.steps", laid_bollard_crc_steps)] }
def CrcMixesSaid : Prop := crcMixesRow.holds Tryd.pinned (OpenSpec.ofChange crcMixesSpec)

/-- ITS FALSE NEIGHBOUR: 'it returns false'. Refute it at one input. -/
def crcMixesWrong : ChangeSpec := { name := "crcMixes", fn := fun _ => fun
  | [d1, d2, d3] => { results := [.lit (.bool false)], args := [d1, d2, d3] }
  | _ => none }
def CrcMixesWrongFalsely : Prop := crcMixesRow.holds Tryd.pinned (OpenSpec.ofChange crcMixesWrong)

/- THE SECOND FORM. 'bulk': how many values and letters a reading holds, each counted each time it is reached (what is shared counts as often as it is met; a slice's spare places count too). A statement '..UptoSaid' is the law's where the arguments, and the package variables that the reading takes, are together of bulk at most 1048576: NARROWER than '..Said'. Prove '..Said' where nothing that the law and all that it calls make is longer than what came in: it says more and counts as full. Else prove '..UptoSaid'. A law counts once. -/
mutual
def uptoBulk {H : Type} : DataW H → Nat
  | .lit (.string bytes) => bytes.length + 1
  | .lit _ => 1
  | .nil => 1
  | .ptr d => uptoBulk d + 1
  | .slice elems spare => uptoBulkAll elems + uptoBulkAll spare + 1
  | .agg parts => uptoBulkAll parts + 1
  | .iface _ d => uptoBulk d + 1
  | .map entries => uptoBulkEntries entries + 1
  | .held _ => 1
def uptoBulkAll {H : Type} : List (DataW H) → Nat
  | [] => 0
  | d :: r => uptoBulk d + uptoBulkAll r
def uptoBulkEntries {H : Type} : List (Lit × DataW H) → Nat
  | [] => 0
  | x :: r => uptoBulkEntry x + uptoBulkEntries r
def uptoBulkEntry {H : Type} : Lit × DataW H → Nat
  | (.string bytes, d) => bytes.length + uptoBulk d + 1
  | (_, d) => uptoBulk d + 1
 end
def uptoSmall : (H : Type) → List (DataW H) → Bool := fun _ ds => decide (uptoBulkAll ds ≤ 1048576)
def OpenSpec.upto (s : _root_.Go.ChangeSpec) : _root_.Go.OpenSpec := { _root_.Go.OpenSpec.ofChange s with cond := some uptoSmall }

/-- 'bollardlaw2.CrcSums', WHERE WHAT IT READS IS OF BULK AT MOST 1048576: true; the input reads as it did. -/
def crcSumsUptoRow : OpenClaim := { program := "ytkbimkpbpbjafaadoor", sum := "a61096c86183291f8cca67645eecc83554fb910be93a65ea7dfe1244a26e78d6", func := "bollard/bollardlaw2.CrcSums", spec := "crcSums", named := ["bollard/crc.steps"], apart := false, laid := [("bollard/crc.steps", laid_bollard_crc_steps)], narrowed := true }
def CrcSumsUptoSaid : Prop := crcSumsUptoRow.holds Tryd.pinned (OpenSpec.upto crcSumsSpec)

/-- 'bollardlaw2.CrcJoins', WHERE WHAT IT READS IS OF BULK AT MOST 1048576: true; the input reads as it did. -/
def crcJoinsUptoRow : OpenClaim := { program := "ytkbimkpbpbjafaadoor", sum := "a61096c86183291f8cca67645eecc83554fb910be93a65ea7dfe1244a26e78d6", func := "bollard/bollardlaw2.CrcJoins", spec := "crcJoins", named := ["bollard/crc.steps"], apart := false, laid := [("bollard/crc.steps", laid_bollard_crc_steps)], narrowed := true }
def CrcJoinsUptoSaid : Prop := crcJoinsUptoRow.holds Tryd.pinned (OpenSpec.upto crcJoinsSpec)

/-- 'bollardlaw2.CrcLong', WHERE WHAT IT READS IS OF BULK AT MOST 1048576: true; the input reads as it did. -/
def crcLongUptoRow : OpenClaim := { program := "ytkbimkpbpbjafaadoor", sum := "a61096c86183291f8cca67645eecc83554fb910be93a65ea7dfe1244a26e78d6", func := "bollard/bollardlaw2.CrcLong", spec := "crcLong", named := ["bollard/crc.steps"], apart := false, laid := [("bollard/crc.steps", laid_bollard_crc_steps)], narrowed := true }
def CrcLongUptoSaid : Prop := crcLongUptoRow.holds Tryd.pinned (OpenSpec.upto crcLongSpec)

/-- 'bollardlaw2.CrcFlips', WHERE WHAT IT READS IS OF BULK AT MOST 1048576: true; the input reads as it did. -/
def crcFlipsUptoRow : OpenClaim := { program := "ytkbimkpbpbjafaadoor", sum := "a61096c86183291f8cca67645eecc83554fb910be93a65ea7dfe1244a26e78d6", func := "bollard/bollardlaw2.CrcFlips", spec := "crcFlips", named := ["bollard/crc.steps"], apart := false, laid := [("bollard/crc.steps", laid_bollard_crc_steps)], narrowed := true }
def CrcFlipsUptoSaid : Prop := crcFlipsUptoRow.holds Tryd.pinned (OpenSpec.upto crcFlipsSpec)

/-- 'bollardlaw2.CrcPieces', WHERE WHAT IT READS IS OF BULK AT MOST 1048576: true; the input reads as it did. -/
def crcPiecesUptoRow : OpenClaim := { program := "ytkbimkpbpbjafaadoor", sum := "a61096c86183291f8cca67645eecc83554fb910be93a65ea7dfe1244a26e78d6", func := "bollard/bollardlaw2.CrcPieces", spec := "crcPieces", named := ["bollard/crc.steps"], apart := false, laid := [("bollard/crc.steps", laid_bollard_crc_steps)], narrowed := true }
def CrcPiecesUptoSaid : Prop := crcPiecesUptoRow.holds Tryd.pinned (OpenSpec.upto crcPiecesSpec)

/-- 'bollardlaw2.CrcMixes', WHERE WHAT IT READS IS OF BULK AT MOST 1048576: true; the input reads as it did. -/
def crcMixesUptoRow : OpenClaim := { program := "ytkbimkpbpbjafaadoor", sum := "a61096c86183291f8cca67645eecc83554fb910be93a65ea7dfe1244a26e78d6", func := "bollard/bollardlaw2.CrcMixes", spec := "crcMixes", named := ["bollard/crc.steps"], apart := false, laid := [("bollard/crc.steps", laid_bollard_crc_steps)], narrowed := true }
def CrcMixesUptoSaid : Prop := crcMixesUptoRow.holds Tryd.pinned (OpenSpec.upto crcMixesSpec)

end Rows
end Go.Proofs.YtkbimkpbpbjafaaDoor
