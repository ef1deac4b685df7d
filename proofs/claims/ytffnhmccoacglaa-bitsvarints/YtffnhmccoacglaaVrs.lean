/- The walk of BitsVarints: true for every argument, and nothing that was there is turned. -/
import Derived.Test.YtffnhmccoacglaaRvar
import Derived.Test.YtffnhmccoacglaaSgn
namespace Go.Proofs.Ytffnhmccoacglaa
set_option linter.unusedSimpArgs false
set_option linter.unusedVariables false
open Go.RowKit
set_option maxRecDepth 100000 in
theorem bitsVarints_walk (a0 : Int) (a1 : Int) (a2 : Option Addr) (cap2 : Nat) (l2 : List Nat) (w : World) (w0 : (Lit.int .u64 a0).wf = true) (w1 : (Lit.int .i64 a1).wf = true) (w2 : Row w a2 l2) (m2 : l2.length ≤ maxLen) :
    Calls Try.prog 4 #[.int .u64 a0, .int .i64 a1, .slice a2 l2.length cap2] w fun e w' => e = .returned (.bool true) ∧ Below w.heap.size w w' := by
  obtain ⟨b0, b1⟩ := bdu64 w0
  obtain ⟨c0, c1⟩ := bd64 w1
  obtain ⟨V, rfl⟩ := Int.eq_ofNat_of_zero_le b0
  clear w0 w1
  by_cases hl : 2000 < (l2.length : Int)
  · go_enter Try.func4, Try.ntmps4
    go_wp2_with (go_at_call 14; refine (awake_any _).mono ?_; rintro e w' ⟨rfl, hb⟩)
    go_ret
    exact ⟨rfl, by assumption⟩
  · obtain ⟨r, HR⟩ : ∃ r, Hid (uv l2 0 0 = r) := ⟨_, rfl⟩
    have er : (((r.1 : Nat) : Int) == ((r.1 : Nat) : Int)) = true := by simp
    have er2 : (((r.2 : Nat) : Int) == ((r.2 : Nat) : Int)) = true := by simp
    obtain ⟨z, HZ⟩ : ∃ z, Hid (zig a1 = z) := ⟨_, rfl⟩
    obtain ⟨y, HY⟩ : ∃ y, Hid (zag V = y) := ⟨_, rfl⟩
    obtain ⟨g, HG⟩ : ∃ g, Hid (groups V = g) := ⟨_, rfl⟩
    have ez : (z == z) = true := by simp
    have ey : (y == y) = true := by simp
    have hV : V ≤ 18446744073709551615 := by omega
    go_enter Try.func4, Try.ntmps4
    go_wp2_with (first
      | (go_at_call 22; refine (unv_any _ _ _ _ w2 m2).mono ?_; rintro e w' ⟨rfl, rfl⟩; rw [HR.out])
      | (go_at_call 23; refine (runv_any _ _ _ _ w2 m2).mono ?_; rintro e w' ⟨rfl, rfl⟩; rw [HR.out]))
    refine (varint_any V _ hV).mono ?_
    rintro e w1 ⟨v, rfl, hown, hb1⟩
    obtain ⟨a, cap, rfl, hrow, hm⟩ := owns_row hown (groups_lt V hV)
    rw [HG.out] at hrow hm ⊢
    clear hown
    go_wp2_with fail
    refine (rvarint_any V _ hV).mono ?_
    rintro e w2 ⟨v, rfl, hown, hb2⟩
    obtain ⟨a', cap', rfl, hrow', hm'⟩ := owns_row hown (groups_lt V hV)
    rw [HG.out] at hrow' hm' ⊢
    clear hown
    have hrow2 := hrow.below hb2
    have HB : Hid (Below _ _ w2) := hb1.trans (hb2.mono hb1.size)
    clear hrow hb1 hb2
    go_wp2_with fail
    refine (bytes_any a cap g a' cap' g _ hrow2 hrow' hm hm).mono ?_
    rintro e w3 ⟨rfl, n, rfl⟩
    rw [show decide (g = g) = true by simp]
    go_wp2_with (first
      | (go_at_call 26; refine (zig_any _ _ c0 c1).mono ?_; rintro e w' ⟨rfl, rfl⟩; rw [HZ.out])
      | (go_at_call 27; refine (rzig_any _ _ c0 c1).mono ?_; rintro e w' ⟨rfl, rfl⟩; rw [HZ.out])
      | (go_at_call 28; refine (zag_any _ _ b0 b1).mono ?_; rintro e w' ⟨rfl, rfl⟩; rw [HY.out])
      | (go_at_call 29; refine (rzag_any _ _ b0 b1).mono ?_; rintro e w' ⟨rfl, rfl⟩; rw [HY.out]))
    refine (awake_any _).mono ?_
    rintro e w4 ⟨rfl, hb⟩
    go_wp2_with fail
    go_ret
    exact ⟨rfl, (below_drewN HB.out n).trans (hb.mono HB.out.size)⟩
end Go.Proofs.Ytffnhmccoacglaa
