/- Plain arithmetic for the package bits: what Zig, Zag, Narrow, Widen come to, without a walk. No condition but the ranges that each law names. -/
import Derived.WalkKit
import Derived.Laws.BitsAllLaws
namespace Go.Proofs.Ytffnhmccoacglaa
set_option linter.unusedSimpArgs false
set_option linter.unusedVariables false
open Go.RowKit

theorem w64 (n : Int) (h0 : -9223372036854775808 ≤ n) (h1 : n ≤ 9223372036854775807) : wrap64 n = n := by unfold wrap64; omega
theorem w64_bd (n : Int) : -9223372036854775808 ≤ wrap64 n ∧ wrap64 n ≤ 9223372036854775807 := by unfold wrap64; omega
theorem wu64 (n : Int) (h0 : 0 ≤ n) (h1 : n ≤ 18446744073709551615) : IntKind.u64.wrap n = n := by rw [IntKind.wrap_u64]; omega

theorem xor_ones (x : Nat) (h : x < 18446744073709551616) : x ^^^ 18446744073709551615 = 18446744073709551615 - x := by
  have e := congrArg BitVec.toNat (BitVec.xor_allOnes (x := BitVec.ofNat 64 x))
  simp only [BitVec.toNat_xor, BitVec.toNat_not, BitVec.toNat_ofNat, BitVec.toNat_allOnes] at e
  rw [Nat.mod_eq_of_lt (by omega)] at e
  exact e

/-- Zig. -/
def zig (v : Int) : Int := if 0 ≤ v then 2 * v else -2 * v - 1
theorem zig_bd (v : Int) (h0 : -9223372036854775808 ≤ v) (h1 : v ≤ 9223372036854775807) : 0 ≤ zig v ∧ zig v ≤ 18446744073709551615 := by unfold zig; split <;> omega
theorem zig_eq (v : Int) (h0 : -9223372036854775808 ≤ v) (h1 : v ≤ 9223372036854775807) :
    bits .xor .u64 (IntKind.u64.wrap (IntKind.u64.wrap v * 2)) (IntKind.u64.wrap (v / 9223372036854775808)) = zig v := by
  simp only [IntKind.wrap_u64]
  by_cases h : 0 ≤ v
  · rw [show v / 9223372036854775808 = 0 by omega, show v % 18446744073709551616 * 2 % 18446744073709551616 = 2 * v by omega, u64_xor _ _ (by omega) (by omega) (by omega) (by omega)]
    simp [zig, h]
    omega
  · rw [show v / 9223372036854775808 = -1 by omega, show v % 18446744073709551616 * 2 % 18446744073709551616 = 18446744073709551616 + 2 * v by omega, u64_xor _ _ (by omega) (by omega) (by omega) (by omega)]
    rw [show ((-1 : Int) % 18446744073709551616).toNat = 18446744073709551615 by decide, xor_ones _ (by omega)]
    simp [zig, h]
    omega

/-- Zag. -/
def zag (u : Int) : Int := if u % 2 = 0 then u / 2 else -(u / 2) - 1
theorem i64_xor_zero (x : Int) (h0 : 0 ≤ x) (h1 : x ≤ 9223372036854775807) : bits .xor .i64 x 0 = x := by
  obtain ⟨n, rfl⟩ := Int.eq_ofNat_of_zero_le h0
  have e2 : (BitVec.ofInt 64 (n : Int)).toNat = n := ofInt_u64 n (by omega)
  show IntKind.i64.wrap ((BitVec.ofInt 64 (n : Int) ^^^ BitVec.ofInt 64 0).toNat : Nat) = _
  rw [BitVec.toNat_xor, e2, show (BitVec.ofInt 64 0).toNat = 0 by decide, Nat.xor_zero, IntKind.wrap_i64]
  omega
theorem i64_xor_ones (x : Int) (h0 : 0 ≤ x) (h1 : x ≤ 9223372036854775807) : bits .xor .i64 x (-1) = -1 - x := by
  obtain ⟨n, rfl⟩ := Int.eq_ofNat_of_zero_le h0
  have e1 : BitVec.ofInt 64 (-1) = BitVec.allOnes 64 := by decide
  have e2 : (BitVec.ofInt 64 (n : Int)).toNat = n := ofInt_u64 n (by omega)
  show IntKind.i64.wrap ((BitVec.ofInt 64 (n : Int) ^^^ BitVec.ofInt 64 (-1)).toNat : Nat) = _
  rw [e1, BitVec.xor_allOnes, BitVec.toNat_not, e2, IntKind.wrap_i64]
  omega
theorem zag_eq (u : Int) (h0 : 0 ≤ u) (h1 : u ≤ 18446744073709551615) :
    bits .xor .i64 (u / 2) (wrap64 (-wrap64 (bits .and .u64 u 1))) = zag u := by
  have e : bits .and .u64 u 1 = u % 2 := by
    rw [u64_and _ _ (by omega) (by omega) (by omega) (by omega)]
    rw [show ((1 : Int).toNat) = 2 ^ 1 - 1 by decide, Nat.and_two_pow_sub_one_eq_mod]
    omega
  rw [e, w64 (u % 2) (by omega) (by omega), w64 (-(u % 2)) (by omega) (by omega)]
  unfold zag
  by_cases h : u % 2 = 0
  · rw [h, if_pos rfl]; exact i64_xor_zero _ (by omega) (by omega)
  · rw [if_neg h, show u % 2 = 1 by omega, i64_xor_ones _ (by omega) (by omega)]; omega
theorem zag_zig (v : Int) : zag (zig v) = v := by unfold zag zig; split <;> split <;> omega

theorem p2pos (n : Nat) : (0 : Int) < 2 ^ n := Int.pow_pos (by decide)
theorem p64 (n : Nat) (h : n ≤ 64) : (2 : Int) ^ (64 - n) * 2 ^ n = 18446744073709551616 := by
  rw [← Int.pow_add, show 64 - n + n = 64 by omega]; rfl
theorem p2succ (n : Nat) (h : 1 ≤ n) : (2 : Int) ^ n = 2 * 2 ^ (n - 1) := by
  obtain ⟨m, rfl⟩ : ∃ m, n = m + 1 := ⟨n - 1, by omega⟩
  simp [Int.pow_succ]; omega
theorem p2le (m n : Nat) (h : m ≤ n) : (2 : Int) ^ m ≤ 2 ^ n := by
  have := Nat.pow_le_pow_right (n := 2) (by decide) h
  exact_mod_cast this
theorem shl_eq (u : Int) (n : Nat) (h : n ≤ 64) : u * 2 ^ (64 - n) % 18446744073709551616 = u % 2 ^ n * 2 ^ (64 - n) := by
  rw [← p64 n h, Int.mul_comm u, Int.mul_emod_mul_of_pos _ _ (p2pos _), Int.mul_comm]

/-- Widen. -/
def widen (u : Int) (n : Nat) (s : Bool) : Int :=
  if s then (if u % 2 ^ n < 2 ^ (n - 1) then u % 2 ^ n else u % 2 ^ n - 2 ^ n) else wrap64 (u % 2 ^ n)
theorem mod_bd (u : Int) (n : Nat) : 0 ≤ u % 2 ^ n ∧ u % 2 ^ n < 2 ^ n := ⟨Int.emod_nonneg _ (by have := p2pos n; omega), Int.emod_lt_of_pos _ (p2pos n)⟩
theorem widenS_eq (u : Int) (n : Nat) (h1 : 1 ≤ n) (h : n ≤ 64) : wrap64 (IntKind.u64.wrap (u * 2 ^ (64 - n))) / 2 ^ (64 - n) = widen u n true := by
  rw [IntKind.wrap_u64, shl_eq u n h]
  have hS := p2pos (64 - n)
  have hp := p64 n h
  have hs := p2succ n h1
  obtain ⟨b0, b1⟩ := mod_bd u n
  unfold widen
  simp only [if_true]
  generalize u % 2 ^ n = r at *
  rw [hs] at hp b1 ⊢
  generalize (2 : Int) ^ (64 - n) = S at *
  generalize (2 : Int) ^ (n - 1) = H at *
  have hHS : H * S = 9223372036854775808 := by
    have : S * (2 * H) = 2 * (H * S) := by rw [Int.mul_left_comm, Int.mul_comm S H]
    omega
  by_cases hr : r < H
  · rw [if_pos hr]
    have h2 : r * S < H * S := Int.mul_lt_mul_of_pos_right hr hS
    have h3 : 0 ≤ r * S := Int.mul_nonneg b0 (by omega)
    rw [w64 _ (by omega) (by omega)]
    exact Int.mul_ediv_cancel r (by omega)
  · rw [if_neg hr]
    have h2 : H * S ≤ r * S := Int.mul_le_mul_of_nonneg_right (by omega) (by omega)
    have h3 : r * S < 2 * H * S := Int.mul_lt_mul_of_pos_right b1 hS
    have h4 : 2 * H * S = 18446744073709551616 := by rw [Int.mul_assoc]; omega
    have h5 : wrap64 (r * S) = (r - 2 * H) * S := by rw [Int.sub_mul]; unfold wrap64; omega
    rw [h5]
    exact Int.mul_ediv_cancel _ (by omega)
theorem widenU_eq0 (u : Int) (n : Nat) (h : n ≤ 64) : IntKind.u64.wrap (u * 2 ^ (64 - n)) / 2 ^ (64 - n) = u % 2 ^ n := by
  rw [IntKind.wrap_u64, shl_eq u n h]
  exact Int.mul_ediv_cancel _ (by have := p2pos (64 - n); omega)
theorem widenU_eq (u : Int) (n : Nat) (h : n ≤ 64) : wrap64 (IntKind.u64.wrap (u * 2 ^ (64 - n)) / 2 ^ (64 - n)) = widen u n false := by
  rw [widenU_eq0 u n h]; simp [widen]

/-- Narrow: does it fit? -/
def fitsIn (v : Int) (n : Nat) (s : Bool) : Bool := if s then decide (-2 ^ (n - 1) ≤ v ∧ v < 2 ^ (n - 1)) else decide (0 ≤ v ∧ v < 2 ^ n)
theorem p2le64 (n : Nat) (h : n ≤ 64) : (2 : Int) ^ n ≤ 18446744073709551616 := by have := p2le n 64 h; simpa using this
theorem widen_narrow (v : Int) (n : Nat) (s : Bool) (h1 : 1 ≤ n) (h : n ≤ 64) (v0 : -9223372036854775808 ≤ v) (v1 : v ≤ 9223372036854775807) (hs : s = false → 0 ≤ v) :
    (widen (v % 2 ^ n) n s = v) ↔ fitsIn v n s = true := by
  have hsu := p2succ n h1
  have hp := p2pos (n - 1)
  have h64 := p2le64 n h
  obtain ⟨b0, b1⟩ := mod_bd v n
  unfold widen fitsIn
  rw [Int.emod_emod_of_dvd _ (Int.dvd_refl _)]
  have hq := Int.emod_add_mul_ediv v (2 ^ n)
  cases s
  · simp only [Bool.false_eq_true, if_false, decide_eq_true_eq]
    have := hs rfl
    constructor
    · intro e
      refine ⟨this, ?_⟩
      by_cases h2 : v % 2 ^ n ≤ 9223372036854775807
      · rw [w64 _ (by omega) h2] at e; omega
      · exfalso
        unfold wrap64 at e
        omega
    · intro e
      rw [Int.emod_eq_of_lt e.1 e.2]
      exact w64 _ (by omega) (by omega)
  · simp only [if_true, decide_eq_true_eq]
    rw [hsu] at hq b0 b1 ⊢
    generalize v % (2 * 2 ^ (n - 1)) = r at *
    generalize v / (2 * 2 ^ (n - 1)) = q at *
    generalize (2 : Int) ^ (n - 1) = H at *
    constructor
    · intro e; split at e <;> omega
    · rintro ⟨e0, e1⟩
      have hq1 : q = 0 ∨ q = -1 := by
        have c1 : q < 1 := by
          apply Int.lt_of_not_ge; intro hc
          have : 2 * H * 1 ≤ 2 * H * q := Int.mul_le_mul_of_nonneg_left hc (by omega)
          omega
        have c2 : -2 < q := by
          apply Int.lt_of_not_ge; intro hc
          have : 2 * H * q ≤ 2 * H * (-2) := Int.mul_le_mul_of_nonneg_left hc (by omega)
          omega
        omega
      rcases hq1 with rfl | rfl
      · rw [if_pos (by omega)]; omega
      · rw [if_neg (by omega)]; omega
theorem p2lt64 (n : Nat) (h : n < 64) : (2 : Int) ^ n ≤ 9223372036854775808 := by have := p2le n 63 (by omega); simpa using this
theorem and_mask (u : Int) (n : Nat) (h : n < 64) (h0 : 0 ≤ u) (h1 : u ≤ 18446744073709551615) : bits .and .u64 u (IntKind.u64.wrap (IntKind.u64.wrap (2 ^ n) - 1)) = u % 2 ^ n := by
  have hp := p2pos n
  have hl := p2lt64 n h
  rw [wu64 (2 ^ n) (by omega) (by omega), wu64 (2 ^ n - 1) (by omega) (by omega), u64_and _ _ (by omega) (by omega) (by omega) (by omega)]
  have e : ((2 : Int) ^ n - 1).toNat = 2 ^ n - 1 := by
    have : ((2 ^ n : Nat) : Int) = (2 : Int) ^ n := by simp
    omega
  rw [e, Nat.and_two_pow_sub_one_eq_mod]
  obtain ⟨m, rfl⟩ := Int.eq_ofNat_of_zero_le h0
  simp
end Go.Proofs.Ytffnhmccoacglaa
