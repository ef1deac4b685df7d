/-
  NARROWER THAN 'FOR EVERY INPUT', by the rows' own cells (each row's printed sentence says how): CodecRequests: laid · CodecBack: laid · CodecOnce: laid · CodecFields: laid · CodecCuts: laid · CodecIDs: laid.
  DERIVED. THE GIVEN ROWS OF THIS SEAT. 6 by the template 'for every input the law returns true; each argument reads behind the call as it read before'; 0 by the template 'total and deterministic' (their statements: YtaooidckmepdeaaDoorTotals.lean).
  GIVEN WITH THE SEED: the statements are not yours to turn. If you find one false, say at which input.
  Laid BY PROGRAM, IN A SANDBOX (cutbox-rows.mjs): the forced cells as the released guide's own fill.sh prints them over the translation 9888f12d0ff9a3e4… (all of the seat's roots in one cut). By AI agents, Wed Nov 11 2026. No macro, syntax, notation, axiom, sorry.
-/
import Derived.Test.YtaooidckmepdeaaDoorChecked
import GoSem.Claim
import GoSem.ClaimJoined
import GoSem.ClaimMapViews
import Derived.JoinedTies
import Derived.KernelRfl
namespace Go.Proofs.YtaooidckmepdeaaDoor
/- THE CELL 'sum', in the pinned program and in every row, IS THE sha256 OF THE DUMP (.gsa) THAT YtaooidckmepdeaaDoorProg.lean LOADS. Nothing in Lean hashes anything: it is a label: what it is worth is what the hold of that sum in a sandbox is worth. -/
noncomputable def Tryd.pinned : Pinned := { name := "ytaooidckmepdeaadoor", sum := "9888f12d0ff9a3e4830cfbf7007002e845db4c6827f6ec037fefeef29db3dc6f", checked := Tryd.checked }
namespace Rows
def none {H : Type} : Left H := { results := [], args := [] }

/- WHAT THE LISTED PACKAGE-LEVEL VARIABLES READ AS WHEN THE CALL BEGINS. Each datum BY PROGRAM (the guide's laid-datum.mjs) off the statement by which the dump's own 'gosem.cut.vars' lays the variable. In a bare row this is a premise. The card (YtaooidckmepdeaaDoorCards.lean) ties it to the program's text. -/
def laid_bollard_crc_steps {H : Type} : DataW H := .agg [.lit (.int .u32 0), .lit (.int .u32 274646895), .lit (.int .u32 549293790), .lit (.int .u32 820201905), .lit (.int .u32 1098587580), .lit (.int .u32 1361435347), .lit (.int .u32 1640403810), .lit (.int .u32 1905808397), .lit (.int .u32 2197175160), .lit (.int .u32 2460548119), .lit (.int .u32 2722870694), .lit (.int .u32 2987750089), .lit (.int .u32 3280807620), .lit (.int .u32 3553878443), .lit (.int .u32 3811616794), .lit (.int .u32 4084100981)]

/-- 'bollardlaw20.CodecRequests': WHATEVER THE INPUT: true; the input reads as it did. -/
def codecRequestsSpec : ChangeSpec := { name := "codecRequests", fn := fun _ => fun
  | [d] => { results := [.lit (.bool true)], args := [d] }
  | _ => none }
def codecRequestsRow : OpenClaim := { program := "ytaooidckmepdeaadoor", sum := "9888f12d0ff9a3e4830cfbf7007002e845db4c6827f6ec037fefeef29db3dc6f", func := "bollard/bollardlaw20.CodecRequests", spec := "codecRequests", unfollowed := true, recurses := true, named := ["bollard/crc.steps"], plainKeys := false, apart := false, laid := [("bollard/crc.steps", laid_bollard_crc_steps)] }
def CodecRequestsSaid : Prop := codecRequestsRow.holds Tryd.pinned (OpenSpec.ofChange codecRequestsSpec)

/-- ITS FALSE NEIGHBOUR: 'it returns false'. Refute it at one input. -/
def codecRequestsWrong : ChangeSpec := { name := "codecRequests", fn := fun _ => fun
  | [d] => { results := [.lit (.bool false)], args := [d] }
  | _ => none }
def CodecRequestsWrongFalsely : Prop := codecRequestsRow.holds Tryd.pinned (OpenSpec.ofChange codecRequestsWrong)

/-- 'bollardlaw20.CodecBack': WHATEVER THE INPUT: true; the input reads as it did. -/
def codecBackSpec : ChangeSpec := { name := "codecBack", fn := fun _ => fun
  | [d1, d2] => { results := [.lit (.bool true)], args := [d1, d2] }
  | _ => none }
def codecBackRow : OpenClaim := { program := "ytaooidckmepdeaadoor", sum := "9888f12d0ff9a3e4830cfbf7007002e845db4c6827f6ec037fefeef29db3dc6f", func := "bollard/bollardlaw20.CodecBack", spec := "codecBack", unfollowed := true, recurses := true, named := ["bollard/crc.steps"], plainKeys := false, apart := false, laid := [("bollard/crc.steps", laid_bollard_crc_steps)] }
def CodecBackSaid : Prop := codecBackRow.holds Tryd.pinned (OpenSpec.ofChange codecBackSpec)

/-- ITS FALSE NEIGHBOUR: 'it returns false'. Refute it at one input. -/
def codecBackWrong : ChangeSpec := { name := "codecBack", fn := fun _ => fun
  | [d1, d2] => { results := [.lit (.bool false)], args := [d1, d2] }
  | _ => none }
def CodecBackWrongFalsely : Prop := codecBackRow.holds Tryd.pinned (OpenSpec.ofChange codecBackWrong)

/-- 'bollardlaw20.CodecOnce': WHATEVER THE INPUT: true; the input reads as it did. -/
def codecOnceSpec : ChangeSpec := { name := "codecOnce", fn := fun _ => fun
  | [d] => { results := [.lit (.bool true)], args := [d] }
  | _ => none }
def codecOnceRow : OpenClaim := { program := "ytaooidckmepdeaadoor", sum := "9888f12d0ff9a3e4830cfbf7007002e845db4c6827f6ec037fefeef29db3dc6f", func := "bollard/bollardlaw20.CodecOnce", spec := "codecOnce", unfollowed := true, recurses := true, named := ["bollard/crc.steps"], plainKeys := false, apart := false, laid := [("bollard/crc.steps", laid_bollard_crc_steps)] }
def CodecOnceSaid : Prop := codecOnceRow.holds Tryd.pinned (OpenSpec.ofChange codecOnceSpec)

/-- ITS FALSE NEIGHBOUR: 'it returns false'. Refute it at one input. -/
def codecOnceWrong : ChangeSpec := { name := "codecOnce", fn := fun _ => fun
  | [d] => { results := [.lit (.bool false)], args := [d] }
  | _ => none }
def CodecOnceWrongFalsely : Prop := codecOnceRow.holds Tryd.pinned (OpenSpec.ofChange codecOnceWrong)

/-- 'bollardlaw20.CodecFields': WHATEVER THE INPUT: true; the input reads as it did. -/
def codecFieldsSpec : ChangeSpec := { name := "codecFields", fn := fun _ => fun
  | [d] => { results := [.lit (.bool true)], args := [d] }
  | _ => none }
def codecFieldsRow : OpenClaim := { program := "ytaooidckmepdeaadoor", sum := "9888f12d0ff9a3e4830cfbf7007002e845db4c6827f6ec037fefeef29db3dc6f", func := "bollard/bollardlaw20.CodecFields", spec := "codecFields", unfollowed := true, recurses := true, named := ["bollard/crc.steps"], plainKeys := false, apart := false, laid := [("bollard/crc.steps", laid_bollard_crc_steps)] }
def CodecFieldsSaid : Prop := codecFieldsRow.holds Tryd.pinned (OpenSpec.ofChange codecFieldsSpec)

/-- ITS FALSE NEIGHBOUR: 'it returns false'. Refute it at one input. -/
def codecFieldsWrong : ChangeSpec := { name := "codecFields", fn := fun _ => fun
  | [d] => { results := [.lit (.bool false)], args := [d] }
  | _ => none }
def CodecFieldsWrongFalsely : Prop := codecFieldsRow.holds Tryd.pinned (OpenSpec.ofChange codecFieldsWrong)

/-- 'bollardlaw20.CodecCuts': WHATEVER THE INPUT: true; the input reads as it did. -/
def codecCutsSpec : ChangeSpec := { name := "codecCuts", fn := fun _ => fun
  | [d1, d2] => { results := [.lit (.bool true)], args := [d1, d2] }
  | _ => none }
def codecCutsRow : OpenClaim := { program := "ytaooidckmepdeaadoor", sum := "9888f12d0ff9a3e4830cfbf7007002e845db4c6827f6ec037fefeef29db3dc6f", func := "bollard/bollardlaw20.CodecCuts", spec := "codecCuts", unfollowed := true, recurses := true, named := ["bollard/crc.steps"], plainKeys := false, apart := false, laid := [("bollard/crc.steps", laid_bollard_crc_steps)] }
def CodecCutsSaid : Prop := codecCutsRow.holds Tryd.pinned (OpenSpec.ofChange codecCutsSpec)

/-- ITS FALSE NEIGHBOUR: 'it returns false'. Refute it at one input. -/
def codecCutsWrong : ChangeSpec := { name := "codecCuts", fn := fun _ => fun
  | [d1, d2] => { results := [.lit (.bool false)], args := [d1, d2] }
  | _ => none }
def CodecCutsWrongFalsely : Prop := codecCutsRow.holds Tryd.pinned (OpenSpec.ofChange codecCutsWrong)

/-- 'bollardlaw20.CodecIDs': WHATEVER THE INPUT: true; the input reads as it did. -/
def codecIDsSpec : ChangeSpec := { name := "codecIDs", fn := fun _ => fun
  | [d1, d2, d3] => { results := [.lit (.bool true)], args := [d1, d2, d3] }
  | _ => none }
def codecIDsRow : OpenClaim := { program := "ytaooidckmepdeaadoor", sum := "9888f12d0ff9a3e4830cfbf7007002e845db4c6827f6ec037fefeef29db3dc6f", func := "bollard/bollardlaw20.CodecIDs", spec := "codecIDs", unfollowed := true, recurses := true, named := ["bollard/crc.steps"], plainKeys := false, apart := false, laid := [("bollard/crc.steps", laid_bollard_crc_steps)] }
def CodecIDsSaid : Prop := codecIDsRow.holds Tryd.pinned (OpenSpec.ofChange codecIDsSpec)

/-- ITS FALSE NEIGHBOUR: 'it returns false'. Refute it at one input. -/
def codecIDsWrong : ChangeSpec := { name := "codecIDs", fn := fun _ => fun
  | [d1, d2, d3] => { results := [.lit (.bool false)], args := [d1, d2, d3] }
  | _ => none }
def CodecIDsWrongFalsely : Prop := codecIDsRow.holds Tryd.pinned (OpenSpec.ofChange codecIDsWrong)

/- THE SECOND FORM. 'bulk': how many values and letters a reading holds, each counted each time it is reached (what is shared counts as often as it is met; a slice's spare places count too). A statement '..UptoSaid' is the law's where the arguments, and the package variables that the reading takes, are together of bulk at most 1048576: NARROWER than '..Said'. Prove '..Said' where nothing that the law and all that it calls make is longer than what came in: it says more and counts as full. Else prove '..UptoSaid'. A law counts once. -/
mutual
def uptoBulk {H : Type} : DataW H → Nat
  | .lit (.string bytes) => bytes.length + 1
  | .lit _ => 1
  | .nil => 1
  | .ptr d => uptoBulk d + 1
  | .slice elems spare => uptoBulkAll elems + uptoBulkAll spare + 1
  | .agg parts => uptoBulkAll parts + 1
  | .iface _ d => uptoBulk d + 1
  | .map entries => uptoBulkEntries entries + 1
  | .held _ => 1
def uptoBulkAll {H : Type} : List (DataW H) → Nat
  | [] => 0
  | d :: r => uptoBulk d + uptoBulkAll r
def uptoBulkEntries {H : Type} : List (Lit × DataW H) → Nat
  | [] => 0
  | x :: r => uptoBulkEntry x + uptoBulkEntries r
def uptoBulkEntry {H : Type} : Lit × DataW H → Nat
  | (.string bytes, d) => bytes.length + uptoBulk d + 1
  | (_, d) => uptoBulk d + 1
 end
def uptoSmall : (H : Type) → List (DataW H) → Bool := fun _ ds => decide (uptoBulkAll ds ≤ 1048576)
def OpenSpec.upto (s : _root_.Go.ChangeSpec) : _root_.Go.OpenSpec := { _root_.Go.OpenSpec.ofChange s with cond := some uptoSmall }

/-- 'bollardlaw20.CodecRequests', WHERE WHAT IT READS IS OF BULK AT MOST 1048576: true; the input reads as it did. -/
def codecRequestsUptoRow : OpenClaim := { program := "ytaooidckmepdeaadoor", sum := "9888f12d0ff9a3e4830cfbf7007002e845db4c6827f6ec037fefeef29db3dc6f", func := "bollard/bollardlaw20.CodecRequests", spec := "codecRequests", unfollowed := true, recurses := true, named := ["bollard/crc.steps"], plainKeys := false, apart := false, laid := [("bollard/crc.steps", laid_bollard_crc_steps)], narrowed := true }
def CodecRequestsUptoSaid : Prop := codecRequestsUptoRow.holds Tryd.pinned (OpenSpec.upto codecRequestsSpec)

/-- 'bollardlaw20.CodecBack', WHERE WHAT IT READS IS OF BULK AT MOST 1048576: true; the input reads as it did. -/
def codecBackUptoRow : OpenClaim := { program := "ytaooidckmepdeaadoor", sum := "9888f12d0ff9a3e4830cfbf7007002e845db4c6827f6ec037fefeef29db3dc6f", func := "bollard/bollardlaw20.CodecBack", spec := "codecBack", unfollowed := true, recurses := true, named := ["bollard/crc.steps"], plainKeys := false, apart := false, laid := [("bollard/crc.steps", laid_bollard_crc_steps)], narrowed := true }
def CodecBackUptoSaid : Prop := codecBackUptoRow.holds Tryd.pinned (OpenSpec.upto codecBackSpec)

/-- 'bollardlaw20.CodecOnce', WHERE WHAT IT READS IS OF BULK AT MOST 1048576: true; the input reads as it did. -/
def codecOnceUptoRow : OpenClaim := { program := "ytaooidckmepdeaadoor", sum := "9888f12d0ff9a3e4830cfbf7007002e845db4c6827f6ec037fefeef29db3dc6f", func := "bollard/bollardlaw20.CodecOnce", spec := "codecOnce", unfollowed := true, recurses := true, named := ["bollard/crc.steps"], plainKeys := false, apart := false, laid := [("bollard/crc.steps", laid_bollard_crc_steps)], narrowed := true }
def CodecOnceUptoSaid : Prop := codecOnceUptoRow.holds Tryd.pinned (OpenSpec.upto codecOnceSpec)

/-- 'bollardlaw20.CodecFields', WHERE WHAT IT READS IS OF BULK AT MOST 1048576: true; the input reads as it did. -/
def codecFieldsUptoRow : OpenClaim := { program := "ytaooidckmepdeaadoor", sum := "9888f12d0ff9a3e4830cfbf7007002e845db4c6827f6ec037fefeef29db3dc6f", func := "bollard/bollardlaw20.CodecFields", spec := "codecFields", unfollowed := true, recurses := true, named := ["bollard/crc.steps"], plainKeys := false, apart := false, laid := [("bollard/crc.steps", laid_bollard_crc_steps)], narrowed := true }
def CodecFieldsUptoSaid : Prop := codecFieldsUptoRow.holds Tryd.pinned (OpenSpec.upto codecFieldsSpec)

/-- 'bollardlaw20.CodecCuts', WHERE WHAT IT READS IS OF BULK AT MOST 1048576: true; the input reads as it did. -/
def codecCutsUptoRow : OpenClaim := { program := "ytaooidckmepdeaadoor", sum := "9888f12d0ff9a3e4830cfbf7007002e845db4c6827f6ec037fefeef29db3dc6f", func := "bollard/bollardlaw20.CodecCuts", spec := "codecCuts", unfollowed := true, recurses := true, named := ["bollard/crc.steps"], plainKeys := false, apart := false, laid := [("bollard/crc.steps", laid_bollard_crc_steps)], narrowed := true }
def CodecCutsUptoSaid : Prop := codecCutsUptoRow.holds Tryd.pinned (OpenSpec.upto codecCutsSpec)

/-- 'bollardlaw20.CodecIDs', WHERE WHAT IT READS IS OF BULK AT MOST 1048576: true; the input reads as it did. -/
def codecIDsUptoRow : OpenClaim := { program := "ytaooidckmepdeaadoor", sum := "9888f12d0ff9a3e4830cfbf7007002e845db4c6827f6ec037fefeef29db3dc6f", func := "bollard/bollardlaw20.CodecIDs", spec := "codecIDs", unfollowed := true, recurses := true, named := ["bollard/crc.steps"], plainKeys := false, apart := false, laid := [("bollard/crc.steps", laid_bollard_crc_steps)], narrowed := true }
def CodecIDsUptoSaid : Prop := codecIDsUptoRow.holds Tryd.pinned (OpenSpec.upto codecIDsSpec)

end Rows
end Go.Proofs.YtaooidckmepdeaaDoor
