/- choice: p modulo w + 1. -/
import Derived.Test.YtohncckmennfbaaDoorFl
namespace Go.Proofs.YtohncckmennfbaaDoor
set_option linter.unusedSimpArgs false
set_option linter.unusedVariables false
open Go.RowKit Go.MapKept
theorem emod_neg (p m : Int) (hm : 0 < m) : m - 1 - ((-1 - p) % m) = p % m := by
  have h1 := Int.emod_add_mul_ediv p m
  have h2 := Int.emod_nonneg p (by omega : m ≠ 0)
  have h3 := Int.emod_lt_of_pos p hm
  have e : -1 - p = (m - 1 - p % m) + m * (-(p / m) - 1) := by
    have e2 : m * (-(p / m) - 1) = -(m * (p / m)) - m := by rw [Int.mul_sub, Int.mul_neg, Int.mul_one]
    rw [e2]; omega
  rw [e, Int.add_mul_emod_self_left, Int.emod_eq_of_lt (by omega) (by omega)]
  omega
theorem not_neg (p : Int) (h1 : -9223372036854775808 ≤ p) (h2 : p < 0) : bits .xor .i64 (-1) p = -1 - p := by
  show IntKind.i64.wrap ((BitVec.ofInt 64 (-1) ^^^ BitVec.ofInt 64 p).toNat : Int) = _
  have e1 : BitVec.ofInt 64 (-1) = BitVec.allOnes 64 := by decide
  have e2 : (BitVec.ofInt 64 p).toNat = (p + 18446744073709551616).toNat := by
    rw [BitVec.toNat_ofInt]
    congr 1
    show p % (18446744073709551616 : Int) = _
    omega
  rw [e1, BitVec.allOnes_xor, BitVec.toNat_not, e2]
  simp [IntKind.wrap, IntKind.bits, IntKind.signed]
  omega
set_option maxHeartbeats 1000000 in
theorem choice_any (p : Int) (n : Nat) (w : World) (h1 : -9223372036854775808 ≤ p) (h2 : p ≤ 9223372036854775807) (hn : n ≤ 1000000) :
    Calls Tryd.prog 46 #[.int .i64 p, .int .i64 (n : Int)] w fun e w' => e = .returned (.int .i64 (p % ((n : Int) + 1))) ∧ w' = w := by
  have hnI : (n : Int) ≤ 1000000 := by omega
  have hn0 : (0 : Int) ≤ (n : Int) := by omega
  have hne : (n : Int) + 1 ≠ 0 := by omega
  have hm := Int.emod_nonneg p hne
  have hm2 := Int.emod_lt_of_pos p (show 0 < (n : Int) + 1 by omega)
  by_cases hp : p < 0
  · have hq1 : 0 ≤ -1 - p := by omega
    have hq2 : -1 - p ≤ 9223372036854775807 := by omega
    have hx := not_neg p h1 hp
    have HE := emod_neg p ((n : Int) + 1) (by omega)
    have HX : Hid ((n : Int) - ((-1 - p) % ((n : Int) + 1)) = p % ((n : Int) + 1)) := by show _ = _; omega
    have g1 := Int.emod_nonneg (-1 - p) hne
    have g2 := Int.emod_lt_of_pos (-1 - p) (show 0 < (n : Int) + 1 by omega)
    clear HE
    go_enter Tryd.func46, Tryd.ntmps46
    go_wp2
    go_ret
    refine ⟨retI ?_, rfl⟩
    have w1 : IntKind.u64.wrap (-1 - p) = -1 - p := by rw [IntKind.wrap_u64]; omega
    rw [w1, Int.tmod_eq_emod_of_nonneg hq1, ← HX.out]
    generalize (-1 - p) % ((n : Int) + 1) = z at *
    unfold wrap64
    omega
  · go_enter Tryd.func46, Tryd.ntmps46
    go_wp2
    go_ret
    exact ⟨rfl, rfl⟩
end Go.Proofs.YtohncckmennfbaaDoor
