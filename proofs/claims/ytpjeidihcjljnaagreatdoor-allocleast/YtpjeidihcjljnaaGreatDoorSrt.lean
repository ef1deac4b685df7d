/- maps.Clone of the three maps, and slices.Sorted(maps.Keys(m)), by the library's contracts. -/
import Derived.Test.YtpjeidihcjljnaaGreatDoorShf
import Derived.Test.YtpjeidihcjljnaaGreatDoorKey
namespace Go.Proofs.YtpjeidihcjljnaaGreatDoor
set_option linter.unusedSimpArgs false
set_option linter.unusedVariables false
open Go.RowKit Go.MapKept Go.Maps Go.Sort Go.Shelf
open Go.WideElems (Fit rd rg rg_of)
theorem cloneL_any (b : Nat) (es : Array MapEntry) (clock : Nat) (w : World) (hb : w.heap[b]? = some (.map es clock)) :
    Calls Tryz.prog 91 #[.map (some b)] w fun e w' => e = .returned (.map (some w.heap.size)) ∧ w' = w.alloc (.map es clock) := AnyW.maps_Clone cloneL b es clock w hb
theorem sorts (m : Nat) : AnyZI.SortsIn Tryz.prog sortedA_ren Fence.wide m :=
  ⟨fun blk off cap ss W hH hblk hsz => callsIn_wide.2 (AnyM.slices_Sort_int sortA blk off cap ss W hH hblk hsz),
   fun p cap W => callsIn_wide.2 (AnyM.slices_Sort_int_none sortA p cap W)⟩
def rdAny (v : Value) : Option (DataW Unit × List MemPlace) := some (.lit (.bool true), [])
theorem wf_nat {k : Nat} (h : k < 4611686018427387904) : (Lit.int .i64 (k : Int)).wf = true := by
  simp [Lit.wf, IntKind.min, IntKind.max, IntKind.signed, IntKind.bits]; omega
end Go.Proofs.YtpjeidihcjljnaaGreatDoor
