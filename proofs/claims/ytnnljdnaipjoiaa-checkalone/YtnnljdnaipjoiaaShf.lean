/- The library's Clone of a text at this program. -/
import Derived.Shelf.Pu.Clone
import Derived.Test.YtnnljdnaipjoiaaKey
namespace Go.Proofs.Ytnnljdnaipjoiaa
open Go.Shelf Go.RowKit
def clone_ren : Go.Shelf.Ren := ⟨fun | 25 => 43 | n => n, fun | 37 => 44 | 47 => 118 | n => n, fun | n => n⟩
theorem clone_lays : Go.Proofs.LaysPu.n25 Try.prog clone_ren := {
  mixed := by kernel_rfl
  f25 := Try.func43.trans (congrArg some (by kernel_rfl))
  t0 := Try.underlying0
  a0 := Try.isAgg0
  z0 := Try.sizeOf0
  v0 := Try.zeroValue0
  i0 := by kernel_rfl
  t3 := Try.underlying3
  a3 := Try.isAgg3
  z3 := Try.sizeOf3
  v3 := Try.zeroValue3
  i3 := by kernel_rfl
  t4 := Try.underlying4
  a4 := Try.isAgg4
  z4 := Try.sizeOf4
  v4 := Try.zeroValue4
  i4 := by kernel_rfl
  t5 := Try.underlying5
  a5 := Try.isAgg5
  z5 := Try.sizeOf5
  v5 := Try.zeroValue5
  i5 := by kernel_rfl
  t9 := Try.underlying9
  a9 := Try.isAgg9
  z9 := Try.sizeOf9
  v9 := Try.zeroValue9
  i9 := by kernel_rfl
  t37 := Try.underlying44
  a37 := Try.isAgg44
  z37 := Try.sizeOf44
  v37 := Try.zeroValue44
  i37 := by kernel_rfl
  t47 := Try.underlying118
  a47 := Try.isAgg118
  z47 := Try.sizeOf118
  v47 := Try.zeroValue118
  i47 := by kernel_rfl }
theorem sclone_any (s : ByteArray) (w : World) (h : s.size ≤ 281474976710656) : Calls Try.prog 43 #[.string s] w fun e w' => e = .returned (.string s) ∧ Below w.heap.size w w' := Go.Proofs.AnyPu.stringslite_Clone clone_lays s w h
theorem clone_any (s : ByteArray) (w : World) (h : s.size ≤ 281474976710656) : Calls Try.prog 25 #[.string s] w fun e w' => e = .returned (.string s) ∧ Below w.heap.size w w' := by
  go_enter Try.func25, Try.ntmps25
  go_wp2_with (go_at_call 43; refine (sclone_any _ _ h).mono ?_; rintro e w' ⟨rfl, hb⟩)
  go_ret
  exact ⟨rfl, hb⟩
end Go.Proofs.Ytnnljdnaipjoiaa
