/-
  NARROWER THAN 'FOR EVERY INPUT', by the rows' own cells (each row's printed sentence says how): JournalPlays: laid · JournalRefuses: laid · JournalBig: laid · JournalNothing: laid · JournalCrash: laid · JournalDead: laid · JournalOwn: laid · JournalSynced: laid · JournalHomes: laid · JournalLong: laid · JournalTwice: laid.
  DERIVED. THE GIVEN ROWS OF THIS SEAT. 11 by the template 'for every input the law returns true; each argument reads behind the call as it read before'; 0 by the template 'total and deterministic' (their statements: YtmodjgailmpfmaaDoorTotals.lean).
  GIVEN WITH THE SEED: the statements are not yours to turn. If you find one false, say at which input.
  Laid BY PROGRAM, IN A SANDBOX (cutbox-rows.mjs): the forced cells as the released guide's own fill.sh prints them over the translation ed4b09a5b558384a… (all of the seat's roots in one cut). By AI agents, Wed Nov 11 2026. No macro, syntax, notation, axiom, sorry.
-/
import Derived.Test.YtmodjgailmpfmaaDoorChecked
import GoSem.Claim
import GoSem.ClaimJoined
import GoSem.ClaimMapViews
import Derived.JoinedTies
import Derived.KernelRfl
namespace Go.Proofs.YtmodjgailmpfmaaDoor
/- THE CELL 'sum', in the pinned program and in every row, IS THE sha256 OF THE DUMP (.gsa) THAT YtmodjgailmpfmaaDoorProg.lean LOADS. Nothing in Lean hashes anything: it is a label: what it is worth is what the hold of that sum in a sandbox is worth. -/
noncomputable def Tryd.pinned : Pinned := { name := "ytmodjgailmpfmaadoor", sum := "ed4b09a5b558384a29d1708ca70869584e262f515264f77961bf2803b8172611", checked := Tryd.checked }
namespace Rows
def none {H : Type} : Left H := { results := [], args := [] }

/- WHAT THE LISTED PACKAGE-LEVEL VARIABLES READ AS WHEN THE CALL BEGINS. Each datum BY PROGRAM (the guide's laid-datum.mjs) off the statement by which the dump's own 'gosem.cut.vars' lays the variable. In a bare row this is a premise. The card (YtmodjgailmpfmaaDoorCards.lean) ties it to the program's text. -/
def laid_bollard_crc_steps {H : Type} : DataW H := .agg [.lit (.int .u32 0), .lit (.int .u32 274646895), .lit (.int .u32 549293790), .lit (.int .u32 820201905), .lit (.int .u32 1098587580), .lit (.int .u32 1361435347), .lit (.int .u32 1640403810), .lit (.int .u32 1905808397), .lit (.int .u32 2197175160), .lit (.int .u32 2460548119), .lit (.int .u32 2722870694), .lit (.int .u32 2987750089), .lit (.int .u32 3280807620), .lit (.int .u32 3553878443), .lit (.int .u32 3811616794), .lit (.int .u32 4084100981)]

/-- 'bollardlaw4.JournalPlays': WHATEVER THE INPUT: true; the input reads as it did. -/
def journalPlaysSpec : ChangeSpec := { name := "journalPlays", fn := fun _ => fun
  | [d] => { results := [.lit (.bool true)], args := [d] }
  | _ => none }
def journalPlaysRow : OpenClaim := { program := "ytmodjgailmpfmaadoor", sum := "ed4b09a5b558384a29d1708ca70869584e262f515264f77961bf2803b8172611", func := "bollard/bollardlaw4.JournalPlays", spec := "journalPlays", inPlace := ["maps.clone"], unfollowed := true, recurses := true, named := ["bollard/crc.steps"], plainKeys := false, apart := false, laid := [("bollard/crc.steps", laid_bollard_crc_steps)] }
def JournalPlaysSaid : Prop := journalPlaysRow.holds Tryd.pinned (OpenSpec.ofChange journalPlaysSpec)

/-- ITS FALSE NEIGHBOUR: 'it returns false'. Refute it at one input. -/
def journalPlaysWrong : ChangeSpec := { name := "journalPlays", fn := fun _ => fun
  | [d] => { results := [.lit (.bool false)], args := [d] }
  | _ => none }
def JournalPlaysWrongFalsely : Prop := journalPlaysRow.holds Tryd.pinned (OpenSpec.ofChange journalPlaysWrong)

/-- 'bollardlaw4.JournalRefuses': WHATEVER THE INPUT: true; the input reads as it did. -/
def journalRefusesSpec : ChangeSpec := { name := "journalRefuses", fn := fun _ => fun
  | [d1, d2, d3, d4, d5] => { results := [.lit (.bool true)], args := [d1, d2, d3, d4, d5] }
  | _ => none }
def journalRefusesRow : OpenClaim := { program := "ytmodjgailmpfmaadoor", sum := "ed4b09a5b558384a29d1708ca70869584e262f515264f77961bf2803b8172611", func := "bollard/bollardlaw4.JournalRefuses", spec := "journalRefuses", inPlace := ["maps.clone"], unfollowed := true, recurses := true, named := ["bollard/crc.steps"], plainKeys := false, apart := false, laid := [("bollard/crc.steps", laid_bollard_crc_steps)] }
def JournalRefusesSaid : Prop := journalRefusesRow.holds Tryd.pinned (OpenSpec.ofChange journalRefusesSpec)

/-- ITS FALSE NEIGHBOUR: 'it returns false'. Refute it at one input. -/
def journalRefusesWrong : ChangeSpec := { name := "journalRefuses", fn := fun _ => fun
  | [d1, d2, d3, d4, d5] => { results := [.lit (.bool false)], args := [d1, d2, d3, d4, d5] }
  | _ => none }
def JournalRefusesWrongFalsely : Prop := journalRefusesRow.holds Tryd.pinned (OpenSpec.ofChange journalRefusesWrong)

/-- 'bollardlaw4.JournalBig': WHATEVER THE INPUT: true; the input reads as it did. -/
def journalBigSpec : ChangeSpec := { name := "journalBig", fn := fun _ => fun
  | [d] => { results := [.lit (.bool true)], args := [d] }
  | _ => none }
def journalBigRow : OpenClaim := { program := "ytmodjgailmpfmaadoor", sum := "ed4b09a5b558384a29d1708ca70869584e262f515264f77961bf2803b8172611", func := "bollard/bollardlaw4.JournalBig", spec := "journalBig", inPlace := ["maps.clone"], unfollowed := true, recurses := true, named := ["bollard/crc.steps"], plainKeys := false, apart := false, laid := [("bollard/crc.steps", laid_bollard_crc_steps)] }
def JournalBigSaid : Prop := journalBigRow.holds Tryd.pinned (OpenSpec.ofChange journalBigSpec)

/-- ITS FALSE NEIGHBOUR: 'it returns false'. Refute it at one input. -/
def journalBigWrong : ChangeSpec := { name := "journalBig", fn := fun _ => fun
  | [d] => { results := [.lit (.bool false)], args := [d] }
  | _ => none }
def JournalBigWrongFalsely : Prop := journalBigRow.holds Tryd.pinned (OpenSpec.ofChange journalBigWrong)

/-- 'bollardlaw4.JournalNothing': WHATEVER THE INPUT: true; the input reads as it did. -/
def journalNothingSpec : ChangeSpec := { name := "journalNothing", fn := fun _ => fun
  | [d1, d2] => { results := [.lit (.bool true)], args := [d1, d2] }
  | _ => none }
def journalNothingRow : OpenClaim := { program := "ytmodjgailmpfmaadoor", sum := "ed4b09a5b558384a29d1708ca70869584e262f515264f77961bf2803b8172611", func := "bollard/bollardlaw4.JournalNothing", spec := "journalNothing", inPlace := ["maps.clone"], unfollowed := true, recurses := true, named := ["bollard/crc.steps"], plainKeys := false, apart := false, laid := [("bollard/crc.steps", laid_bollard_crc_steps)] }
def JournalNothingSaid : Prop := journalNothingRow.holds Tryd.pinned (OpenSpec.ofChange journalNothingSpec)

/-- ITS FALSE NEIGHBOUR: 'it returns false'. Refute it at one input. -/
def journalNothingWrong : ChangeSpec := { name := "journalNothing", fn := fun _ => fun
  | [d1, d2] => { results := [.lit (.bool false)], args := [d1, d2] }
  | _ => none }
def JournalNothingWrongFalsely : Prop := journalNothingRow.holds Tryd.pinned (OpenSpec.ofChange journalNothingWrong)

/-- 'bollardlaw4.JournalCrash': WHATEVER THE INPUT: true; the input reads as it did. -/
def journalCrashSpec : ChangeSpec := { name := "journalCrash", fn := fun _ => fun
  | [d1, d2, d3, d4] => { results := [.lit (.bool true)], args := [d1, d2, d3, d4] }
  | _ => none }
def journalCrashRow : OpenClaim := { program := "ytmodjgailmpfmaadoor", sum := "ed4b09a5b558384a29d1708ca70869584e262f515264f77961bf2803b8172611", func := "bollard/bollardlaw4.JournalCrash", spec := "journalCrash", inPlace := ["maps.clone"], unfollowed := true, recurses := true, named := ["bollard/crc.steps"], plainKeys := false, apart := false, laid := [("bollard/crc.steps", laid_bollard_crc_steps)] }
def JournalCrashSaid : Prop := journalCrashRow.holds Tryd.pinned (OpenSpec.ofChange journalCrashSpec)

/-- ITS FALSE NEIGHBOUR: 'it returns false'. Refute it at one input. -/
def journalCrashWrong : ChangeSpec := { name := "journalCrash", fn := fun _ => fun
  | [d1, d2, d3, d4] => { results := [.lit (.bool false)], args := [d1, d2, d3, d4] }
  | _ => none }
def JournalCrashWrongFalsely : Prop := journalCrashRow.holds Tryd.pinned (OpenSpec.ofChange journalCrashWrong)

/-- 'bollardlaw4.JournalDead': WHATEVER THE INPUT: true; the input reads as it did. -/
def journalDeadSpec : ChangeSpec := { name := "journalDead", fn := fun _ => fun
  | [d1, d2] => { results := [.lit (.bool true)], args := [d1, d2] }
  | _ => none }
def journalDeadRow : OpenClaim := { program := "ytmodjgailmpfmaadoor", sum := "ed4b09a5b558384a29d1708ca70869584e262f515264f77961bf2803b8172611", func := "bollard/bollardlaw4.JournalDead", spec := "journalDead", inPlace := ["maps.clone"], unfollowed := true, recurses := true, named := ["bollard/crc.steps"], plainKeys := false, apart := false, laid := [("bollard/crc.steps", laid_bollard_crc_steps)] }
def JournalDeadSaid : Prop := journalDeadRow.holds Tryd.pinned (OpenSpec.ofChange journalDeadSpec)

/-- ITS FALSE NEIGHBOUR: 'it returns false'. Refute it at one input. -/
def journalDeadWrong : ChangeSpec := { name := "journalDead", fn := fun _ => fun
  | [d1, d2] => { results := [.lit (.bool false)], args := [d1, d2] }
  | _ => none }
def JournalDeadWrongFalsely : Prop := journalDeadRow.holds Tryd.pinned (OpenSpec.ofChange journalDeadWrong)

/-- 'bollardlaw4.JournalOwn': WHATEVER THE INPUT: true; the input reads as it did. -/
def journalOwnSpec : ChangeSpec := { name := "journalOwn", fn := fun _ => fun
  | [d1, d2] => { results := [.lit (.bool true)], args := [d1, d2] }
  | _ => none }
def journalOwnRow : OpenClaim := { program := "ytmodjgailmpfmaadoor", sum := "ed4b09a5b558384a29d1708ca70869584e262f515264f77961bf2803b8172611", func := "bollard/bollardlaw4.JournalOwn", spec := "journalOwn", inPlace := ["maps.clone"], unfollowed := true, recurses := true, named := ["bollard/crc.steps"], plainKeys := false, apart := false, laid := [("bollard/crc.steps", laid_bollard_crc_steps)] }
def JournalOwnSaid : Prop := journalOwnRow.holds Tryd.pinned (OpenSpec.ofChange journalOwnSpec)

/-- ITS FALSE NEIGHBOUR: 'it returns false'. Refute it at one input. -/
def journalOwnWrong : ChangeSpec := { name := "journalOwn", fn := fun _ => fun
  | [d1, d2] => { results := [.lit (.bool false)], args := [d1, d2] }
  | _ => none }
def JournalOwnWrongFalsely : Prop := journalOwnRow.holds Tryd.pinned (OpenSpec.ofChange journalOwnWrong)

/-- 'bollardlaw4.JournalSynced': WHATEVER THE INPUT: true; the input reads as it did. -/
def journalSyncedSpec : ChangeSpec := { name := "journalSynced", fn := fun _ => fun
  | [d1, d2] => { results := [.lit (.bool true)], args := [d1, d2] }
  | _ => none }
def journalSyncedRow : OpenClaim := { program := "ytmodjgailmpfmaadoor", sum := "ed4b09a5b558384a29d1708ca70869584e262f515264f77961bf2803b8172611", func := "bollard/bollardlaw4.JournalSynced", spec := "journalSynced", inPlace := ["maps.clone"], unfollowed := true, recurses := true, named := ["bollard/crc.steps"], plainKeys := false, apart := false, laid := [("bollard/crc.steps", laid_bollard_crc_steps)] }
def JournalSyncedSaid : Prop := journalSyncedRow.holds Tryd.pinned (OpenSpec.ofChange journalSyncedSpec)

/-- ITS FALSE NEIGHBOUR: 'it returns false'. Refute it at one input. -/
def journalSyncedWrong : ChangeSpec := { name := "journalSynced", fn := fun _ => fun
  | [d1, d2] => { results := [.lit (.bool false)], args := [d1, d2] }
  | _ => none }
def JournalSyncedWrongFalsely : Prop := journalSyncedRow.holds Tryd.pinned (OpenSpec.ofChange journalSyncedWrong)

/-- 'bollardlaw4.JournalHomes': WHATEVER THE INPUT: true; the input reads as it did. -/
def journalHomesSpec : ChangeSpec := { name := "journalHomes", fn := fun _ => fun
  | [d1, d2] => { results := [.lit (.bool true)], args := [d1, d2] }
  | _ => none }
def journalHomesRow : OpenClaim := { program := "ytmodjgailmpfmaadoor", sum := "ed4b09a5b558384a29d1708ca70869584e262f515264f77961bf2803b8172611", func := "bollard/bollardlaw4.JournalHomes", spec := "journalHomes", inPlace := ["maps.clone"], unfollowed := true, recurses := true, named := ["bollard/crc.steps"], plainKeys := false, apart := false, laid := [("bollard/crc.steps", laid_bollard_crc_steps)] }
def JournalHomesSaid : Prop := journalHomesRow.holds Tryd.pinned (OpenSpec.ofChange journalHomesSpec)

/-- ITS FALSE NEIGHBOUR: 'it returns false'. Refute it at one input. -/
def journalHomesWrong : ChangeSpec := { name := "journalHomes", fn := fun _ => fun
  | [d1, d2] => { results := [.lit (.bool false)], args := [d1, d2] }
  | _ => none }
def JournalHomesWrongFalsely : Prop := journalHomesRow.holds Tryd.pinned (OpenSpec.ofChange journalHomesWrong)

/-- 'bollardlaw4.JournalLong': WHATEVER THE INPUT: true; the input reads as it did. -/
def journalLongSpec : ChangeSpec := { name := "journalLong", fn := fun _ => fun
  | [d1, d2, d3] => { results := [.lit (.bool true)], args := [d1, d2, d3] }
  | _ => none }
def journalLongRow : OpenClaim := { program := "ytmodjgailmpfmaadoor", sum := "ed4b09a5b558384a29d1708ca70869584e262f515264f77961bf2803b8172611", func := "bollard/bollardlaw4.JournalLong", spec := "journalLong", inPlace := ["maps.clone"], unfollowed := true, recurses := true, named := ["bollard/crc.steps"], plainKeys := false, apart := false, laid := [("bollard/crc.steps", laid_bollard_crc_steps)] }
def JournalLongSaid : Prop := journalLongRow.holds Tryd.pinned (OpenSpec.ofChange journalLongSpec)

/-- ITS FALSE NEIGHBOUR: 'it returns false'. Refute it at one input. -/
def journalLongWrong : ChangeSpec := { name := "journalLong", fn := fun _ => fun
  | [d1, d2, d3] => { results := [.lit (.bool false)], args := [d1, d2, d3] }
  | _ => none }
def JournalLongWrongFalsely : Prop := journalLongRow.holds Tryd.pinned (OpenSpec.ofChange journalLongWrong)

/-- 'bollardlaw4.JournalTwice': WHATEVER THE INPUT: true; the input reads as it did. -/
def journalTwiceSpec : ChangeSpec := { name := "journalTwice", fn := fun _ => fun
  | [d1, d2, d3] => { results := [.lit (.bool true)], args := [d1, d2, d3] }
  | _ => none }
def journalTwiceRow : OpenClaim := { program := "ytmodjgailmpfmaadoor", sum := "ed4b09a5b558384a29d1708ca70869584e262f515264f77961bf2803b8172611", func := "bollard/bollardlaw4.JournalTwice", spec := "journalTwice", inPlace := ["maps.clone"], unfollowed := true, recurses := true, named := ["bollard/crc.steps"], plainKeys := false, apart := false, laid := [("bollard/crc.steps", laid_bollard_crc_steps)] }
def JournalTwiceSaid : Prop := journalTwiceRow.holds Tryd.pinned (OpenSpec.ofChange journalTwiceSpec)

/-- ITS FALSE NEIGHBOUR: 'it returns false'. Refute it at one input. -/
def journalTwiceWrong : ChangeSpec := { name := "journalTwice", fn := fun _ => fun
  | [d1, d2, d3] => { results := [.lit (.bool false)], args := [d1, d2, d3] }
  | _ => none }
def JournalTwiceWrongFalsely : Prop := journalTwiceRow.holds Tryd.pinned (OpenSpec.ofChange journalTwiceWrong)

/- THE SECOND FORM. 'bulk': how many values and letters a reading holds, each counted each time it is reached (what is shared counts as often as it is met; a slice's spare places count too). A statement '..UptoSaid' is the law's where the arguments, and the package variables that the reading takes, are together of bulk at most 1048576: NARROWER than '..Said'. Prove '..Said' where nothing that the law and all that it calls make is longer than what came in: it says more and counts as full. Else prove '..UptoSaid'. A law counts once. -/
mutual
def uptoBulk {H : Type} : DataW H → Nat
  | .lit (.string bytes) => bytes.length + 1
  | .lit _ => 1
  | .nil => 1
  | .ptr d => uptoBulk d + 1
  | .slice elems spare => uptoBulkAll elems + uptoBulkAll spare + 1
  | .agg parts => uptoBulkAll parts + 1
  | .iface _ d => uptoBulk d + 1
  | .map entries => uptoBulkEntries entries + 1
  | .held _ => 1
def uptoBulkAll {H : Type} : List (DataW H) → Nat
  | [] => 0
  | d :: r => uptoBulk d + uptoBulkAll r
def uptoBulkEntries {H : Type} : List (Lit × DataW H) → Nat
  | [] => 0
  | x :: r => uptoBulkEntry x + uptoBulkEntries r
def uptoBulkEntry {H : Type} : Lit × DataW H → Nat
  | (.string bytes, d) => bytes.length + uptoBulk d + 1
  | (_, d) => uptoBulk d + 1
 end
def uptoSmall : (H : Type) → List (DataW H) → Bool := fun _ ds => decide (uptoBulkAll ds ≤ 1048576)
def OpenSpec.upto (s : _root_.Go.ChangeSpec) : _root_.Go.OpenSpec := { _root_.Go.OpenSpec.ofChange s with cond := some uptoSmall }

/-- 'bollardlaw4.JournalPlays', WHERE WHAT IT READS IS OF BULK AT MOST 1048576: true; the input reads as it did. -/
def journalPlaysUptoRow : OpenClaim := { program := "ytmodjgailmpfmaadoor", sum := "ed4b09a5b558384a29d1708ca70869584e262f515264f77961bf2803b8172611", func := "bollard/bollardlaw4.JournalPlays", spec := "journalPlays", inPlace := ["maps.clone"], unfollowed := true, recurses := true, named := ["bollard/crc.steps"], plainKeys := false, apart := false, laid := [("bollard/crc.steps", laid_bollard_crc_steps)], narrowed := true }
def JournalPlaysUptoSaid : Prop := journalPlaysUptoRow.holds Tryd.pinned (OpenSpec.upto journalPlaysSpec)

/-- 'bollardlaw4.JournalRefuses', WHERE WHAT IT READS IS OF BULK AT MOST 1048576: true; the input reads as it did. -/
def journalRefusesUptoRow : OpenClaim := { program := "ytmodjgailmpfmaadoor", sum := "ed4b09a5b558384a29d1708ca70869584e262f515264f77961bf2803b8172611", func := "bollard/bollardlaw4.JournalRefuses", spec := "journalRefuses", inPlace := ["maps.clone"], unfollowed := true, recurses := true, named := ["bollard/crc.steps"], plainKeys := false, apart := false, laid := [("bollard/crc.steps", laid_bollard_crc_steps)], narrowed := true }
def JournalRefusesUptoSaid : Prop := journalRefusesUptoRow.holds Tryd.pinned (OpenSpec.upto journalRefusesSpec)

/-- 'bollardlaw4.JournalBig', WHERE WHAT IT READS IS OF BULK AT MOST 1048576: true; the input reads as it did. -/
def journalBigUptoRow : OpenClaim := { program := "ytmodjgailmpfmaadoor", sum := "ed4b09a5b558384a29d1708ca70869584e262f515264f77961bf2803b8172611", func := "bollard/bollardlaw4.JournalBig", spec := "journalBig", inPlace := ["maps.clone"], unfollowed := true, recurses := true, named := ["bollard/crc.steps"], plainKeys := false, apart := false, laid := [("bollard/crc.steps", laid_bollard_crc_steps)], narrowed := true }
def JournalBigUptoSaid : Prop := journalBigUptoRow.holds Tryd.pinned (OpenSpec.upto journalBigSpec)

/-- 'bollardlaw4.JournalNothing', WHERE WHAT IT READS IS OF BULK AT MOST 1048576: true; the input reads as it did. -/
def journalNothingUptoRow : OpenClaim := { program := "ytmodjgailmpfmaadoor", sum := "ed4b09a5b558384a29d1708ca70869584e262f515264f77961bf2803b8172611", func := "bollard/bollardlaw4.JournalNothing", spec := "journalNothing", inPlace := ["maps.clone"], unfollowed := true, recurses := true, named := ["bollard/crc.steps"], plainKeys := false, apart := false, laid := [("bollard/crc.steps", laid_bollard_crc_steps)], narrowed := true }
def JournalNothingUptoSaid : Prop := journalNothingUptoRow.holds Tryd.pinned (OpenSpec.upto journalNothingSpec)

/-- 'bollardlaw4.JournalCrash', WHERE WHAT IT READS IS OF BULK AT MOST 1048576: true; the input reads as it did. -/
def journalCrashUptoRow : OpenClaim := { program := "ytmodjgailmpfmaadoor", sum := "ed4b09a5b558384a29d1708ca70869584e262f515264f77961bf2803b8172611", func := "bollard/bollardlaw4.JournalCrash", spec := "journalCrash", inPlace := ["maps.clone"], unfollowed := true, recurses := true, named := ["bollard/crc.steps"], plainKeys := false, apart := false, laid := [("bollard/crc.steps", laid_bollard_crc_steps)], narrowed := true }
def JournalCrashUptoSaid : Prop := journalCrashUptoRow.holds Tryd.pinned (OpenSpec.upto journalCrashSpec)

/-- 'bollardlaw4.JournalDead', WHERE WHAT IT READS IS OF BULK AT MOST 1048576: true; the input reads as it did. -/
def journalDeadUptoRow : OpenClaim := { program := "ytmodjgailmpfmaadoor", sum := "ed4b09a5b558384a29d1708ca70869584e262f515264f77961bf2803b8172611", func := "bollard/bollardlaw4.JournalDead", spec := "journalDead", inPlace := ["maps.clone"], unfollowed := true, recurses := true, named := ["bollard/crc.steps"], plainKeys := false, apart := false, laid := [("bollard/crc.steps", laid_bollard_crc_steps)], narrowed := true }
def JournalDeadUptoSaid : Prop := journalDeadUptoRow.holds Tryd.pinned (OpenSpec.upto journalDeadSpec)

/-- 'bollardlaw4.JournalOwn', WHERE WHAT IT READS IS OF BULK AT MOST 1048576: true; the input reads as it did. -/
def journalOwnUptoRow : OpenClaim := { program := "ytmodjgailmpfmaadoor", sum := "ed4b09a5b558384a29d1708ca70869584e262f515264f77961bf2803b8172611", func := "bollard/bollardlaw4.JournalOwn", spec := "journalOwn", inPlace := ["maps.clone"], unfollowed := true, recurses := true, named := ["bollard/crc.steps"], plainKeys := false, apart := false, laid := [("bollard/crc.steps", laid_bollard_crc_steps)], narrowed := true }
def JournalOwnUptoSaid : Prop := journalOwnUptoRow.holds Tryd.pinned (OpenSpec.upto journalOwnSpec)

/-- 'bollardlaw4.JournalSynced', WHERE WHAT IT READS IS OF BULK AT MOST 1048576: true; the input reads as it did. -/
def journalSyncedUptoRow : OpenClaim := { program := "ytmodjgailmpfmaadoor", sum := "ed4b09a5b558384a29d1708ca70869584e262f515264f77961bf2803b8172611", func := "bollard/bollardlaw4.JournalSynced", spec := "journalSynced", inPlace := ["maps.clone"], unfollowed := true, recurses := true, named := ["bollard/crc.steps"], plainKeys := false, apart := false, laid := [("bollard/crc.steps", laid_bollard_crc_steps)], narrowed := true }
def JournalSyncedUptoSaid : Prop := journalSyncedUptoRow.holds Tryd.pinned (OpenSpec.upto journalSyncedSpec)

/-- 'bollardlaw4.JournalHomes', WHERE WHAT IT READS IS OF BULK AT MOST 1048576: true; the input reads as it did. -/
def journalHomesUptoRow : OpenClaim := { program := "ytmodjgailmpfmaadoor", sum := "ed4b09a5b558384a29d1708ca70869584e262f515264f77961bf2803b8172611", func := "bollard/bollardlaw4.JournalHomes", spec := "journalHomes", inPlace := ["maps.clone"], unfollowed := true, recurses := true, named := ["bollard/crc.steps"], plainKeys := false, apart := false, laid := [("bollard/crc.steps", laid_bollard_crc_steps)], narrowed := true }
def JournalHomesUptoSaid : Prop := journalHomesUptoRow.holds Tryd.pinned (OpenSpec.upto journalHomesSpec)

/-- 'bollardlaw4.JournalLong', WHERE WHAT IT READS IS OF BULK AT MOST 1048576: true; the input reads as it did. -/
def journalLongUptoRow : OpenClaim := { program := "ytmodjgailmpfmaadoor", sum := "ed4b09a5b558384a29d1708ca70869584e262f515264f77961bf2803b8172611", func := "bollard/bollardlaw4.JournalLong", spec := "journalLong", inPlace := ["maps.clone"], unfollowed := true, recurses := true, named := ["bollard/crc.steps"], plainKeys := false, apart := false, laid := [("bollard/crc.steps", laid_bollard_crc_steps)], narrowed := true }
def JournalLongUptoSaid : Prop := journalLongUptoRow.holds Tryd.pinned (OpenSpec.upto journalLongSpec)

/-- 'bollardlaw4.JournalTwice', WHERE WHAT IT READS IS OF BULK AT MOST 1048576: true; the input reads as it did. -/
def journalTwiceUptoRow : OpenClaim := { program := "ytmodjgailmpfmaadoor", sum := "ed4b09a5b558384a29d1708ca70869584e262f515264f77961bf2803b8172611", func := "bollard/bollardlaw4.JournalTwice", spec := "journalTwice", inPlace := ["maps.clone"], unfollowed := true, recurses := true, named := ["bollard/crc.steps"], plainKeys := false, apart := false, laid := [("bollard/crc.steps", laid_bollard_crc_steps)], narrowed := true }
def JournalTwiceUptoSaid : Prop := journalTwiceUptoRow.holds Tryd.pinned (OpenSpec.upto journalTwiceSpec)

end Rows
end Go.Proofs.YtmodjgailmpfmaaDoor
