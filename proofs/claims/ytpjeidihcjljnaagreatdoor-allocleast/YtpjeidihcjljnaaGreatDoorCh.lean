/- choice: p modulo w + 1. -/
import Derived.Test.YtpjeidihcjljnaaGreatDoorFl
namespace Go.Proofs.YtpjeidihcjljnaaGreatDoor
set_option linter.unusedSimpArgs false
set_option linter.unusedVariables false
open Go.RowKit Go.MapKept
theorem emod_neg (p m : Int) (hm : 0 < m) : m - 1 - ((-1 - p) % m) = p % m := by
  have h1 := Int.emod_add_mul_ediv p m
  have h2 := Int.emod_nonneg p (by omega : m ≠ 0)
  have h3 := Int.emod_lt_of_pos p hm
  have e : -1 - p = (m - 1 - p % m) + m * (-(p / m) - 1) := by
    have e2 : m * (-(p / m) - 1) = -(m * (p / m)) - m := by rw [Int.mul_sub, Int.mul_neg, Int.mul_one]
    rw [e2]; omega
  rw [e, Int.add_mul_emod_self_left, Int.emod_eq_of_lt (by omega) (by omega)]
  omega
theorem not_neg (p : Int) (h1 : -9223372036854775808 ≤ p) (h2 : p < 0) : bits .xor .i64 (-1) p = -1 - p := by
  show IntKind.i64.wrap ((BitVec.ofInt 64 (-1) ^^^ BitVec.ofInt 64 p).toNat : Int) = _
  have e1 : BitVec.ofInt 64 (-1) = BitVec.allOnes 64 := by decide
  have e2 : (BitVec.ofInt 64 p).toNat = (p + 18446744073709551616).toNat := by
    rw [BitVec.toNat_ofInt]
    congr 1
    show p % (18446744073709551616 : Int) = _
    omega
  rw [e1, BitVec.allOnes_xor, BitVec.toNat_not, e2]
  simp [IntKind.wrap, IntKind.bits, IntKind.signed]
  omega
end Go.Proofs.YtpjeidihcjljnaaGreatDoor
