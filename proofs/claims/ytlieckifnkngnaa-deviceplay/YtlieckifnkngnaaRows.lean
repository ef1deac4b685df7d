/-
  No cell of these rows narrows 'for every input' (looked for: loops, veiled, ifaces, maps, wideKeys, modest, calm, conditions, laid).
  DERIVED. THE GIVEN ROWS OF THIS SEAT. 8 by the template 'for every input the law returns true; each argument reads behind the call as it read before'; 0 by the template 'total and deterministic' (their statements: YtlieckifnkngnaaTotals.lean).
  GIVEN WITH THE SEED: the statements are not yours to turn. If you find one false, say at which input.
  Laid BY PROGRAM, IN A SANDBOX (cutbox-rows.mjs): the forced cells as the released guide's own fill.sh prints them over the translation b24fabe4aa51221b… (all of the seat's roots in one cut). By AI agents, Wed Nov 11 2026. No macro, syntax, notation, axiom, sorry.
-/
import Derived.Test.YtlieckifnkngnaaChecked
import GoSem.Claim
import GoSem.ClaimJoined
import GoSem.ClaimMapViews
import Derived.JoinedTies
import Derived.KernelRfl
namespace Go.Proofs.Ytlieckifnkngnaa
/- THE CELL 'sum', in the pinned program and in every row, IS THE sha256 OF THE DUMP (.gsa) THAT YtlieckifnkngnaaProg.lean LOADS. Nothing in Lean hashes anything: it is a label: what it is worth is what the hold of that sum in a sandbox is worth. -/
noncomputable def Try.pinned : Pinned := { name := "ytlieckifnkngnaa", sum := "b24fabe4aa51221bbe69bd25249917230e1a5834b8299a527aa5de5133358b73", checked := Try.checked }
namespace Rows
def none {H : Type} : Left H := { results := [], args := [] }

/-- 'bollardlaw3.DevicePlay': WHATEVER THE INPUT: true; the input reads as it did. -/
def devicePlaySpec : ChangeSpec := { name := "devicePlay", fn := fun _ => fun
  | [d1, d2] => { results := [.lit (.bool true)], args := [d1, d2] }
  | _ => none }
def devicePlayRow : OpenClaim := { program := "ytlieckifnkngnaa", sum := "b24fabe4aa51221bbe69bd25249917230e1a5834b8299a527aa5de5133358b73", func := "bollard/bollardlaw3.DevicePlay", spec := "devicePlay", inPlace := ["maps.clone"], unfollowed := true, recurses := true, plainKeys := false, apart := false }
def DevicePlaySaid : Prop := devicePlayRow.holds Try.pinned (OpenSpec.ofChange devicePlaySpec)

/-- ITS FALSE NEIGHBOUR: 'it returns false'. Refute it at one input. -/
def devicePlayWrong : ChangeSpec := { name := "devicePlay", fn := fun _ => fun
  | [d1, d2] => { results := [.lit (.bool false)], args := [d1, d2] }
  | _ => none }
def DevicePlayWrongFalsely : Prop := devicePlayRow.holds Try.pinned (OpenSpec.ofChange devicePlayWrong)

/-- 'bollardlaw3.DeviceSizes': WHATEVER THE INPUT: true; the input reads as it did. -/
def deviceSizesSpec : ChangeSpec := { name := "deviceSizes", fn := fun _ => fun
  | [d] => { results := [.lit (.bool true)], args := [d] }
  | _ => none }
def deviceSizesRow : OpenClaim := { program := "ytlieckifnkngnaa", sum := "b24fabe4aa51221bbe69bd25249917230e1a5834b8299a527aa5de5133358b73", func := "bollard/bollardlaw3.DeviceSizes", spec := "deviceSizes", inPlace := ["maps.clone"], unfollowed := true, recurses := true, plainKeys := false, apart := false }
def DeviceSizesSaid : Prop := deviceSizesRow.holds Try.pinned (OpenSpec.ofChange deviceSizesSpec)

/-- ITS FALSE NEIGHBOUR: 'it returns false'. Refute it at one input. -/
def deviceSizesWrong : ChangeSpec := { name := "deviceSizes", fn := fun _ => fun
  | [d] => { results := [.lit (.bool false)], args := [d] }
  | _ => none }
def DeviceSizesWrongFalsely : Prop := deviceSizesRow.holds Try.pinned (OpenSpec.ofChange deviceSizesWrong)

/-- 'bollardlaw3.DeviceNothing': WHATEVER THE INPUT: true; the input reads as it did. -/
def deviceNothingSpec : ChangeSpec := { name := "deviceNothing", fn := fun _ => fun
  | [d1, d2] => { results := [.lit (.bool true)], args := [d1, d2] }
  | _ => none }
def deviceNothingRow : OpenClaim := { program := "ytlieckifnkngnaa", sum := "b24fabe4aa51221bbe69bd25249917230e1a5834b8299a527aa5de5133358b73", func := "bollard/bollardlaw3.DeviceNothing", spec := "deviceNothing", inPlace := ["maps.clone"], unfollowed := true, recurses := true, plainKeys := false, apart := false }
def DeviceNothingSaid : Prop := deviceNothingRow.holds Try.pinned (OpenSpec.ofChange deviceNothingSpec)

/-- ITS FALSE NEIGHBOUR: 'it returns false'. Refute it at one input. -/
def deviceNothingWrong : ChangeSpec := { name := "deviceNothing", fn := fun _ => fun
  | [d1, d2] => { results := [.lit (.bool false)], args := [d1, d2] }
  | _ => none }
def DeviceNothingWrongFalsely : Prop := deviceNothingRow.holds Try.pinned (OpenSpec.ofChange deviceNothingWrong)

/-- 'bollardlaw3.DeviceLasts': WHATEVER THE INPUT: true; the input reads as it did. -/
def deviceLastsSpec : ChangeSpec := { name := "deviceLasts", fn := fun _ => fun
  | [d1, d2, d3] => { results := [.lit (.bool true)], args := [d1, d2, d3] }
  | _ => none }
def deviceLastsRow : OpenClaim := { program := "ytlieckifnkngnaa", sum := "b24fabe4aa51221bbe69bd25249917230e1a5834b8299a527aa5de5133358b73", func := "bollard/bollardlaw3.DeviceLasts", spec := "deviceLasts", inPlace := ["maps.clone"], unfollowed := true, recurses := true, plainKeys := false, apart := false }
def DeviceLastsSaid : Prop := deviceLastsRow.holds Try.pinned (OpenSpec.ofChange deviceLastsSpec)

/-- ITS FALSE NEIGHBOUR: 'it returns false'. Refute it at one input. -/
def deviceLastsWrong : ChangeSpec := { name := "deviceLasts", fn := fun _ => fun
  | [d1, d2, d3] => { results := [.lit (.bool false)], args := [d1, d2, d3] }
  | _ => none }
def DeviceLastsWrongFalsely : Prop := deviceLastsRow.holds Try.pinned (OpenSpec.ofChange deviceLastsWrong)

/-- 'bollardlaw3.DeviceCuts': WHATEVER THE INPUT: true; the input reads as it did. -/
def deviceCutsSpec : ChangeSpec := { name := "deviceCuts", fn := fun _ => fun
  | [d1, d2] => { results := [.lit (.bool true)], args := [d1, d2] }
  | _ => none }
def deviceCutsRow : OpenClaim := { program := "ytlieckifnkngnaa", sum := "b24fabe4aa51221bbe69bd25249917230e1a5834b8299a527aa5de5133358b73", func := "bollard/bollardlaw3.DeviceCuts", spec := "deviceCuts", inPlace := ["maps.clone"], unfollowed := true, recurses := true, plainKeys := false, apart := false }
def DeviceCutsSaid : Prop := deviceCutsRow.holds Try.pinned (OpenSpec.ofChange deviceCutsSpec)

/-- ITS FALSE NEIGHBOUR: 'it returns false'. Refute it at one input. -/
def deviceCutsWrong : ChangeSpec := { name := "deviceCuts", fn := fun _ => fun
  | [d1, d2] => { results := [.lit (.bool false)], args := [d1, d2] }
  | _ => none }
def DeviceCutsWrongFalsely : Prop := deviceCutsRow.holds Try.pinned (OpenSpec.ofChange deviceCutsWrong)

/-- 'bollardlaw3.DeviceSelf': WHATEVER THE INPUT: true; the input reads as it did. -/
def deviceSelfSpec : ChangeSpec := { name := "deviceSelf", fn := fun _ => fun
  | [d1, d2] => { results := [.lit (.bool true)], args := [d1, d2] }
  | _ => none }
def deviceSelfRow : OpenClaim := { program := "ytlieckifnkngnaa", sum := "b24fabe4aa51221bbe69bd25249917230e1a5834b8299a527aa5de5133358b73", func := "bollard/bollardlaw3.DeviceSelf", spec := "deviceSelf", inPlace := ["maps.clone"], unfollowed := true, recurses := true, plainKeys := false, apart := false }
def DeviceSelfSaid : Prop := deviceSelfRow.holds Try.pinned (OpenSpec.ofChange deviceSelfSpec)

/-- ITS FALSE NEIGHBOUR: 'it returns false'. Refute it at one input. -/
def deviceSelfWrong : ChangeSpec := { name := "deviceSelf", fn := fun _ => fun
  | [d1, d2] => { results := [.lit (.bool false)], args := [d1, d2] }
  | _ => none }
def DeviceSelfWrongFalsely : Prop := deviceSelfRow.holds Try.pinned (OpenSpec.ofChange deviceSelfWrong)

/-- 'bollardlaw3.DeviceNone': WHATEVER THE INPUT: true; the input reads as it did. -/
def deviceNoneSpec : ChangeSpec := { name := "deviceNone", fn := fun _ => fun
  | [d1, d2] => { results := [.lit (.bool true)], args := [d1, d2] }
  | _ => none }
def deviceNoneRow : OpenClaim := { program := "ytlieckifnkngnaa", sum := "b24fabe4aa51221bbe69bd25249917230e1a5834b8299a527aa5de5133358b73", func := "bollard/bollardlaw3.DeviceNone", spec := "deviceNone", inPlace := ["maps.clone"], unfollowed := true, recurses := true, plainKeys := false, apart := false }
def DeviceNoneSaid : Prop := deviceNoneRow.holds Try.pinned (OpenSpec.ofChange deviceNoneSpec)

/-- ITS FALSE NEIGHBOUR: 'it returns false'. Refute it at one input. -/
def deviceNoneWrong : ChangeSpec := { name := "deviceNone", fn := fun _ => fun
  | [d1, d2] => { results := [.lit (.bool false)], args := [d1, d2] }
  | _ => none }
def DeviceNoneWrongFalsely : Prop := deviceNoneRow.holds Try.pinned (OpenSpec.ofChange deviceNoneWrong)

/-- 'bollardlaw3.DeviceFlush': WHATEVER THE INPUT: true; the input reads as it did. -/
def deviceFlushSpec : ChangeSpec := { name := "deviceFlush", fn := fun _ => fun
  | [d1, d2] => { results := [.lit (.bool true)], args := [d1, d2] }
  | _ => none }
def deviceFlushRow : OpenClaim := { program := "ytlieckifnkngnaa", sum := "b24fabe4aa51221bbe69bd25249917230e1a5834b8299a527aa5de5133358b73", func := "bollard/bollardlaw3.DeviceFlush", spec := "deviceFlush", inPlace := ["maps.clone"], unfollowed := true, recurses := true, plainKeys := false, apart := false }
def DeviceFlushSaid : Prop := deviceFlushRow.holds Try.pinned (OpenSpec.ofChange deviceFlushSpec)

/-- ITS FALSE NEIGHBOUR: 'it returns false'. Refute it at one input. -/
def deviceFlushWrong : ChangeSpec := { name := "deviceFlush", fn := fun _ => fun
  | [d1, d2] => { results := [.lit (.bool false)], args := [d1, d2] }
  | _ => none }
def DeviceFlushWrongFalsely : Prop := deviceFlushRow.holds Try.pinned (OpenSpec.ofChange deviceFlushWrong)

/- THE SECOND FORM. 'bulk': how many values and letters a reading holds, each counted each time it is reached (what is shared counts as often as it is met; a slice's spare places count too). A statement '..UptoSaid' is the law's where the arguments, and the package variables that the reading takes, are together of bulk at most 1048576: NARROWER than '..Said'. Prove '..Said' where nothing that the law and all that it calls make is longer than what came in: it says more and counts as full. Else prove '..UptoSaid'. A law counts once. -/
mutual
def uptoBulk {H : Type} : DataW H → Nat
  | .lit (.string bytes) => bytes.length + 1
  | .lit _ => 1
  | .nil => 1
  | .ptr d => uptoBulk d + 1
  | .slice elems spare => uptoBulkAll elems + uptoBulkAll spare + 1
  | .agg parts => uptoBulkAll parts + 1
  | .iface _ d => uptoBulk d + 1
  | .map entries => uptoBulkEntries entries + 1
  | .held _ => 1
def uptoBulkAll {H : Type} : List (DataW H) → Nat
  | [] => 0
  | d :: r => uptoBulk d + uptoBulkAll r
def uptoBulkEntries {H : Type} : List (Lit × DataW H) → Nat
  | [] => 0
  | x :: r => uptoBulkEntry x + uptoBulkEntries r
def uptoBulkEntry {H : Type} : Lit × DataW H → Nat
  | (.string bytes, d) => bytes.length + uptoBulk d + 1
  | (_, d) => uptoBulk d + 1
 end
def uptoSmall : (H : Type) → List (DataW H) → Bool := fun _ ds => decide (uptoBulkAll ds ≤ 1048576)
def OpenSpec.upto (s : _root_.Go.ChangeSpec) : _root_.Go.OpenSpec := { _root_.Go.OpenSpec.ofChange s with cond := some uptoSmall }

/-- 'bollardlaw3.DevicePlay', WHERE WHAT IT READS IS OF BULK AT MOST 1048576: true; the input reads as it did. -/
def devicePlayUptoRow : OpenClaim := { program := "ytlieckifnkngnaa", sum := "b24fabe4aa51221bbe69bd25249917230e1a5834b8299a527aa5de5133358b73", func := "bollard/bollardlaw3.DevicePlay", spec := "devicePlay", inPlace := ["maps.clone"], unfollowed := true, recurses := true, plainKeys := false, apart := false, narrowed := true }
def DevicePlayUptoSaid : Prop := devicePlayUptoRow.holds Try.pinned (OpenSpec.upto devicePlaySpec)

/-- 'bollardlaw3.DeviceSizes', WHERE WHAT IT READS IS OF BULK AT MOST 1048576: true; the input reads as it did. -/
def deviceSizesUptoRow : OpenClaim := { program := "ytlieckifnkngnaa", sum := "b24fabe4aa51221bbe69bd25249917230e1a5834b8299a527aa5de5133358b73", func := "bollard/bollardlaw3.DeviceSizes", spec := "deviceSizes", inPlace := ["maps.clone"], unfollowed := true, recurses := true, plainKeys := false, apart := false, narrowed := true }
def DeviceSizesUptoSaid : Prop := deviceSizesUptoRow.holds Try.pinned (OpenSpec.upto deviceSizesSpec)

/-- 'bollardlaw3.DeviceNothing', WHERE WHAT IT READS IS OF BULK AT MOST 1048576: true; the input reads as it did. -/
def deviceNothingUptoRow : OpenClaim := { program := "ytlieckifnkngnaa", sum := "b24fabe4aa51221bbe69bd25249917230e1a5834b8299a527aa5de5133358b73", func := "bollard/bollardlaw3.DeviceNothing", spec := "deviceNothing", inPlace := ["maps.clone"], unfollowed := true, recurses := true, plainKeys := false, apart := false, narrowed := true }
def DeviceNothingUptoSaid : Prop := deviceNothingUptoRow.holds Try.pinned (OpenSpec.upto deviceNothingSpec)

/-- 'bollardlaw3.DeviceLasts', WHERE WHAT IT READS IS OF BULK AT MOST 1048576: true; the input reads as it did. -/
def deviceLastsUptoRow : OpenClaim := { program := "ytlieckifnkngnaa", sum := "b24fabe4aa51221bbe69bd25249917230e1a5834b8299a527aa5de5133358b73", func := "bollard/bollardlaw3.DeviceLasts", spec := "deviceLasts", inPlace := ["maps.clone"], unfollowed := true, recurses := true, plainKeys := false, apart := false, narrowed := true }
def DeviceLastsUptoSaid : Prop := deviceLastsUptoRow.holds Try.pinned (OpenSpec.upto deviceLastsSpec)

/-- 'bollardlaw3.DeviceCuts', WHERE WHAT IT READS IS OF BULK AT MOST 1048576: true; the input reads as it did. -/
def deviceCutsUptoRow : OpenClaim := { program := "ytlieckifnkngnaa", sum := "b24fabe4aa51221bbe69bd25249917230e1a5834b8299a527aa5de5133358b73", func := "bollard/bollardlaw3.DeviceCuts", spec := "deviceCuts", inPlace := ["maps.clone"], unfollowed := true, recurses := true, plainKeys := false, apart := false, narrowed := true }
def DeviceCutsUptoSaid : Prop := deviceCutsUptoRow.holds Try.pinned (OpenSpec.upto deviceCutsSpec)

/-- 'bollardlaw3.DeviceSelf', WHERE WHAT IT READS IS OF BULK AT MOST 1048576: true; the input reads as it did. -/
def deviceSelfUptoRow : OpenClaim := { program := "ytlieckifnkngnaa", sum := "b24fabe4aa51221bbe69bd25249917230e1a5834b8299a527aa5de5133358b73", func := "bollard/bollardlaw3.DeviceSelf", spec := "deviceSelf", inPlace := ["maps.clone"], unfollowed := true, recurses := true, plainKeys := false, apart := false, narrowed := true }
def DeviceSelfUptoSaid : Prop := deviceSelfUptoRow.holds Try.pinned (OpenSpec.upto deviceSelfSpec)

/-- 'bollardlaw3.DeviceNone', WHERE WHAT IT READS IS OF BULK AT MOST 1048576: true; the input reads as it did. -/
def deviceNoneUptoRow : OpenClaim := { program := "ytlieckifnkngnaa", sum := "b24fabe4aa51221bbe69bd25249917230e1a5834b8299a527aa5de5133358b73", func := "bollard/bollardlaw3.DeviceNone", spec := "deviceNone", inPlace := ["maps.clone"], unfollowed := true, recurses := true, plainKeys := false, apart := false, narrowed := true }
def DeviceNoneUptoSaid : Prop := deviceNoneUptoRow.holds Try.pinned (OpenSpec.upto deviceNoneSpec)

/-- 'bollardlaw3.DeviceFlush', WHERE WHAT IT READS IS OF BULK AT MOST 1048576: true; the input reads as it did. -/
def deviceFlushUptoRow : OpenClaim := { program := "ytlieckifnkngnaa", sum := "b24fabe4aa51221bbe69bd25249917230e1a5834b8299a527aa5de5133358b73", func := "bollard/bollardlaw3.DeviceFlush", spec := "deviceFlush", inPlace := ["maps.clone"], unfollowed := true, recurses := true, plainKeys := false, apart := false, narrowed := true }
def DeviceFlushUptoSaid : Prop := deviceFlushUptoRow.holds Try.pinned (OpenSpec.upto deviceFlushSpec)

end Rows
end Go.Proofs.Ytlieckifnkngnaa
