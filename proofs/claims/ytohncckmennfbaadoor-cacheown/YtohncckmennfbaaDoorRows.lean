/-
  NARROWER THAN 'FOR EVERY INPUT', by the rows' own cells (each row's printed sentence says how): CachePlays: laid · CacheNothing: laid · CacheWhole: laid · CacheOver: laid · CacheOwn: laid · CacheCounts: laid.
  DERIVED. THE GIVEN ROWS OF THIS SEAT. 6 by the template 'for every input the law returns true; each argument reads behind the call as it read before'; 0 by the template 'total and deterministic' (their statements: YtohncckmennfbaaDoorTotals.lean).
  GIVEN WITH THE SEED: the statements are not yours to turn. If you find one false, say at which input.
  Laid BY PROGRAM, IN A SANDBOX (cutbox-rows.mjs): the forced cells as the released guide's own fill.sh prints them over the translation 23936d83d5a4396d… (all of the seat's roots in one cut). By AI agents, Wed Nov 11 2026. No macro, syntax, notation, axiom, sorry.
-/
import Derived.Test.YtohncckmennfbaaDoorChecked
import GoSem.Claim
import GoSem.ClaimJoined
import GoSem.ClaimMapViews
import Derived.JoinedTies
import Derived.KernelRfl
namespace Go.Proofs.YtohncckmennfbaaDoor
/- THE CELL 'sum', in the pinned program and in every row, IS THE sha256 OF THE DUMP (.gsa) THAT YtohncckmennfbaaDoorProg.lean LOADS. Nothing in Lean hashes anything: it is a label: what it is worth is what the hold of that sum in a sandbox is worth. -/
noncomputable def Tryd.pinned : Pinned := { name := "ytohncckmennfbaadoor", sum := "23936d83d5a4396d5e7f71ac8ac638f5b646f546ecd0665630bc08a4e98dae52", checked := Tryd.checked }
namespace Rows
def none {H : Type} : Left H := { results := [], args := [] }

/- WHAT THE LISTED PACKAGE-LEVEL VARIABLES READ AS WHEN THE CALL BEGINS. Each datum BY PROGRAM (the guide's laid-datum.mjs) off the statement by which the dump's own 'gosem.cut.vars' lays the variable. In a bare row this is a premise. The card (YtohncckmennfbaaDoorCards.lean) ties it to the program's text. -/
def laid_bollard_crc_steps {H : Type} : DataW H := .agg [.lit (.int .u32 0), .lit (.int .u32 274646895), .lit (.int .u32 549293790), .lit (.int .u32 820201905), .lit (.int .u32 1098587580), .lit (.int .u32 1361435347), .lit (.int .u32 1640403810), .lit (.int .u32 1905808397), .lit (.int .u32 2197175160), .lit (.int .u32 2460548119), .lit (.int .u32 2722870694), .lit (.int .u32 2987750089), .lit (.int .u32 3280807620), .lit (.int .u32 3553878443), .lit (.int .u32 3811616794), .lit (.int .u32 4084100981)]

/-- 'bollardlaw5.CachePlays': WHATEVER THE INPUT: true; the input reads as it did. -/
def cachePlaysSpec : ChangeSpec := { name := "cachePlays", fn := fun _ => fun
  | [d] => { results := [.lit (.bool true)], args := [d] }
  | _ => none }
def cachePlaysRow : OpenClaim := { program := "ytohncckmennfbaadoor", sum := "23936d83d5a4396d5e7f71ac8ac638f5b646f546ecd0665630bc08a4e98dae52", func := "bollard/bollardlaw5.CachePlays", spec := "cachePlays", inPlace := ["maps.clone"], unfollowed := true, recurses := true, named := ["bollard/crc.steps"], plainKeys := false, apart := false, laid := [("bollard/crc.steps", laid_bollard_crc_steps)] }
def CachePlaysSaid : Prop := cachePlaysRow.holds Tryd.pinned (OpenSpec.ofChange cachePlaysSpec)

/-- ITS FALSE NEIGHBOUR: 'it returns false'. Refute it at one input. -/
def cachePlaysWrong : ChangeSpec := { name := "cachePlays", fn := fun _ => fun
  | [d] => { results := [.lit (.bool false)], args := [d] }
  | _ => none }
def CachePlaysWrongFalsely : Prop := cachePlaysRow.holds Tryd.pinned (OpenSpec.ofChange cachePlaysWrong)

/-- 'bollardlaw5.CacheNothing': WHATEVER THE INPUT: true; the input reads as it did. -/
def cacheNothingSpec : ChangeSpec := { name := "cacheNothing", fn := fun _ => fun
  | [d1, d2] => { results := [.lit (.bool true)], args := [d1, d2] }
  | _ => none }
def cacheNothingRow : OpenClaim := { program := "ytohncckmennfbaadoor", sum := "23936d83d5a4396d5e7f71ac8ac638f5b646f546ecd0665630bc08a4e98dae52", func := "bollard/bollardlaw5.CacheNothing", spec := "cacheNothing", inPlace := ["maps.clone"], unfollowed := true, recurses := true, named := ["bollard/crc.steps"], plainKeys := false, apart := false, laid := [("bollard/crc.steps", laid_bollard_crc_steps)] }
def CacheNothingSaid : Prop := cacheNothingRow.holds Tryd.pinned (OpenSpec.ofChange cacheNothingSpec)

/-- ITS FALSE NEIGHBOUR: 'it returns false'. Refute it at one input. -/
def cacheNothingWrong : ChangeSpec := { name := "cacheNothing", fn := fun _ => fun
  | [d1, d2] => { results := [.lit (.bool false)], args := [d1, d2] }
  | _ => none }
def CacheNothingWrongFalsely : Prop := cacheNothingRow.holds Tryd.pinned (OpenSpec.ofChange cacheNothingWrong)

/-- 'bollardlaw5.CacheWhole': WHATEVER THE INPUT: true; the input reads as it did. -/
def cacheWholeSpec : ChangeSpec := { name := "cacheWhole", fn := fun _ => fun
  | [d1, d2, d3] => { results := [.lit (.bool true)], args := [d1, d2, d3] }
  | _ => none }
def cacheWholeRow : OpenClaim := { program := "ytohncckmennfbaadoor", sum := "23936d83d5a4396d5e7f71ac8ac638f5b646f546ecd0665630bc08a4e98dae52", func := "bollard/bollardlaw5.CacheWhole", spec := "cacheWhole", inPlace := ["maps.clone"], unfollowed := true, recurses := true, named := ["bollard/crc.steps"], plainKeys := false, apart := false, laid := [("bollard/crc.steps", laid_bollard_crc_steps)] }
def CacheWholeSaid : Prop := cacheWholeRow.holds Tryd.pinned (OpenSpec.ofChange cacheWholeSpec)

/-- ITS FALSE NEIGHBOUR: 'it returns false'. Refute it at one input. -/
def cacheWholeWrong : ChangeSpec := { name := "cacheWhole", fn := fun _ => fun
  | [d1, d2, d3] => { results := [.lit (.bool false)], args := [d1, d2, d3] }
  | _ => none }
def CacheWholeWrongFalsely : Prop := cacheWholeRow.holds Tryd.pinned (OpenSpec.ofChange cacheWholeWrong)

/-- 'bollardlaw5.CacheOver': WHATEVER THE INPUT: true; the input reads as it did. -/
def cacheOverSpec : ChangeSpec := { name := "cacheOver", fn := fun _ => fun
  | [d1, d2] => { results := [.lit (.bool true)], args := [d1, d2] }
  | _ => none }
def cacheOverRow : OpenClaim := { program := "ytohncckmennfbaadoor", sum := "23936d83d5a4396d5e7f71ac8ac638f5b646f546ecd0665630bc08a4e98dae52", func := "bollard/bollardlaw5.CacheOver", spec := "cacheOver", inPlace := ["maps.clone"], unfollowed := true, recurses := true, named := ["bollard/crc.steps"], plainKeys := false, apart := false, laid := [("bollard/crc.steps", laid_bollard_crc_steps)] }
def CacheOverSaid : Prop := cacheOverRow.holds Tryd.pinned (OpenSpec.ofChange cacheOverSpec)

/-- ITS FALSE NEIGHBOUR: 'it returns false'. Refute it at one input. -/
def cacheOverWrong : ChangeSpec := { name := "cacheOver", fn := fun _ => fun
  | [d1, d2] => { results := [.lit (.bool false)], args := [d1, d2] }
  | _ => none }
def CacheOverWrongFalsely : Prop := cacheOverRow.holds Tryd.pinned (OpenSpec.ofChange cacheOverWrong)

/-- 'bollardlaw5.CacheOwn': WHATEVER THE INPUT: true; the input reads as it did. -/
def cacheOwnSpec : ChangeSpec := { name := "cacheOwn", fn := fun _ => fun
  | [d1, d2] => { results := [.lit (.bool true)], args := [d1, d2] }
  | _ => none }
def cacheOwnRow : OpenClaim := { program := "ytohncckmennfbaadoor", sum := "23936d83d5a4396d5e7f71ac8ac638f5b646f546ecd0665630bc08a4e98dae52", func := "bollard/bollardlaw5.CacheOwn", spec := "cacheOwn", inPlace := ["maps.clone"], unfollowed := true, recurses := true, named := ["bollard/crc.steps"], plainKeys := false, apart := false, laid := [("bollard/crc.steps", laid_bollard_crc_steps)] }
def CacheOwnSaid : Prop := cacheOwnRow.holds Tryd.pinned (OpenSpec.ofChange cacheOwnSpec)

/-- ITS FALSE NEIGHBOUR: 'it returns false'. Refute it at one input. -/
def cacheOwnWrong : ChangeSpec := { name := "cacheOwn", fn := fun _ => fun
  | [d1, d2] => { results := [.lit (.bool false)], args := [d1, d2] }
  | _ => none }
def CacheOwnWrongFalsely : Prop := cacheOwnRow.holds Tryd.pinned (OpenSpec.ofChange cacheOwnWrong)

/-- 'bollardlaw5.CacheCounts': WHATEVER THE INPUT: true; the input reads as it did. -/
def cacheCountsSpec : ChangeSpec := { name := "cacheCounts", fn := fun _ => fun
  | [d] => { results := [.lit (.bool true)], args := [d] }
  | _ => none }
def cacheCountsRow : OpenClaim := { program := "ytohncckmennfbaadoor", sum := "23936d83d5a4396d5e7f71ac8ac638f5b646f546ecd0665630bc08a4e98dae52", func := "bollard/bollardlaw5.CacheCounts", spec := "cacheCounts", inPlace := ["maps.clone"], unfollowed := true, recurses := true, named := ["bollard/crc.steps"], plainKeys := false, apart := false, laid := [("bollard/crc.steps", laid_bollard_crc_steps)] }
def CacheCountsSaid : Prop := cacheCountsRow.holds Tryd.pinned (OpenSpec.ofChange cacheCountsSpec)

/-- ITS FALSE NEIGHBOUR: 'it returns false'. Refute it at one input. -/
def cacheCountsWrong : ChangeSpec := { name := "cacheCounts", fn := fun _ => fun
  | [d] => { results := [.lit (.bool false)], args := [d] }
  | _ => none }
def CacheCountsWrongFalsely : Prop := cacheCountsRow.holds Tryd.pinned (OpenSpec.ofChange cacheCountsWrong)

/- THE SECOND FORM. 'bulk': how many values and letters a reading holds, each counted each time it is reached (what is shared counts as often as it is met; a slice's spare places count too). A statement '..UptoSaid' is the law's where the arguments, and the package variables that the reading takes, are together of bulk at most 1048576: NARROWER than '..Said'. Prove '..Said' where nothing that the law and all that it calls make is longer than what came in: it says more and counts as full. Else prove '..UptoSaid'. A law counts once. -/
mutual
def uptoBulk {H : Type} : DataW H → Nat
  | .lit (.string bytes) => bytes.length + 1
  | .lit _ => 1
  | .nil => 1
  | .ptr d => uptoBulk d + 1
  | .slice elems spare => uptoBulkAll elems + uptoBulkAll spare + 1
  | .agg parts => uptoBulkAll parts + 1
  | .iface _ d => uptoBulk d + 1
  | .map entries => uptoBulkEntries entries + 1
  | .held _ => 1
def uptoBulkAll {H : Type} : List (DataW H) → Nat
  | [] => 0
  | d :: r => uptoBulk d + uptoBulkAll r
def uptoBulkEntries {H : Type} : List (Lit × DataW H) → Nat
  | [] => 0
  | x :: r => uptoBulkEntry x + uptoBulkEntries r
def uptoBulkEntry {H : Type} : Lit × DataW H → Nat
  | (.string bytes, d) => bytes.length + uptoBulk d + 1
  | (_, d) => uptoBulk d + 1
 end
def uptoSmall : (H : Type) → List (DataW H) → Bool := fun _ ds => decide (uptoBulkAll ds ≤ 1048576)
def OpenSpec.upto (s : _root_.Go.ChangeSpec) : _root_.Go.OpenSpec := { _root_.Go.OpenSpec.ofChange s with cond := some uptoSmall }

/-- 'bollardlaw5.CachePlays', WHERE WHAT IT READS IS OF BULK AT MOST 1048576: true; the input reads as it did. -/
def cachePlaysUptoRow : OpenClaim := { program := "ytohncckmennfbaadoor", sum := "23936d83d5a4396d5e7f71ac8ac638f5b646f546ecd0665630bc08a4e98dae52", func := "bollard/bollardlaw5.CachePlays", spec := "cachePlays", inPlace := ["maps.clone"], unfollowed := true, recurses := true, named := ["bollard/crc.steps"], plainKeys := false, apart := false, laid := [("bollard/crc.steps", laid_bollard_crc_steps)], narrowed := true }
def CachePlaysUptoSaid : Prop := cachePlaysUptoRow.holds Tryd.pinned (OpenSpec.upto cachePlaysSpec)

/-- 'bollardlaw5.CacheNothing', WHERE WHAT IT READS IS OF BULK AT MOST 1048576: true; the input reads as it did. -/
def cacheNothingUptoRow : OpenClaim := { program := "ytohncckmennfbaadoor", sum := "23936d83d5a4396d5e7f71ac8ac638f5b646f546ecd0665630bc08a4e98dae52", func := "bollard/bollardlaw5.CacheNothing", spec := "cacheNothing", inPlace := ["maps.clone"], unfollowed := true, recurses := true, named := ["bollard/crc.steps"], plainKeys := false, apart := false, laid := [("bollard/crc.steps", laid_bollard_crc_steps)], narrowed := true }
def CacheNothingUptoSaid : Prop := cacheNothingUptoRow.holds Tryd.pinned (OpenSpec.upto cacheNothingSpec)

/-- 'bollardlaw5.CacheWhole', WHERE WHAT IT READS IS OF BULK AT MOST 1048576: true; the input reads as it did. -/
def cacheWholeUptoRow : OpenClaim := { program := "ytohncckmennfbaadoor", sum := "23936d83d5a4396d5e7f71ac8ac638f5b646f546ecd0665630bc08a4e98dae52", func := "bollard/bollardlaw5.CacheWhole", spec := "cacheWhole", inPlace := ["maps.clone"], unfollowed := true, recurses := true, named := ["bollard/crc.steps"], plainKeys := false, apart := false, laid := [("bollard/crc.steps", laid_bollard_crc_steps)], narrowed := true }
def CacheWholeUptoSaid : Prop := cacheWholeUptoRow.holds Tryd.pinned (OpenSpec.upto cacheWholeSpec)

/-- 'bollardlaw5.CacheOver', WHERE WHAT IT READS IS OF BULK AT MOST 1048576: true; the input reads as it did. -/
def cacheOverUptoRow : OpenClaim := { program := "ytohncckmennfbaadoor", sum := "23936d83d5a4396d5e7f71ac8ac638f5b646f546ecd0665630bc08a4e98dae52", func := "bollard/bollardlaw5.CacheOver", spec := "cacheOver", inPlace := ["maps.clone"], unfollowed := true, recurses := true, named := ["bollard/crc.steps"], plainKeys := false, apart := false, laid := [("bollard/crc.steps", laid_bollard_crc_steps)], narrowed := true }
def CacheOverUptoSaid : Prop := cacheOverUptoRow.holds Tryd.pinned (OpenSpec.upto cacheOverSpec)

/-- 'bollardlaw5.CacheOwn', WHERE WHAT IT READS IS OF BULK AT MOST 1048576: true; the input reads as it did. -/
def cacheOwnUptoRow : OpenClaim := { program := "ytohncckmennfbaadoor", sum := "23936d83d5a4396d5e7f71ac8ac638f5b646f546ecd0665630bc08a4e98dae52", func := "bollard/bollardlaw5.CacheOwn", spec := "cacheOwn", inPlace := ["maps.clone"], unfollowed := true, recurses := true, named := ["bollard/crc.steps"], plainKeys := false, apart := false, laid := [("bollard/crc.steps", laid_bollard_crc_steps)], narrowed := true }
def CacheOwnUptoSaid : Prop := cacheOwnUptoRow.holds Tryd.pinned (OpenSpec.upto cacheOwnSpec)

/-- 'bollardlaw5.CacheCounts', WHERE WHAT IT READS IS OF BULK AT MOST 1048576: true; the input reads as it did. -/
def cacheCountsUptoRow : OpenClaim := { program := "ytohncckmennfbaadoor", sum := "23936d83d5a4396d5e7f71ac8ac638f5b646f546ecd0665630bc08a4e98dae52", func := "bollard/bollardlaw5.CacheCounts", spec := "cacheCounts", inPlace := ["maps.clone"], unfollowed := true, recurses := true, named := ["bollard/crc.steps"], plainKeys := false, apart := false, laid := [("bollard/crc.steps", laid_bollard_crc_steps)], narrowed := true }
def CacheCountsUptoSaid : Prop := cacheCountsUptoRow.holds Tryd.pinned (OpenSpec.upto cacheCountsSpec)

end Rows
end Go.Proofs.YtohncckmennfbaaDoor
