/- IDs: plain. -/
import Derived.Test.YtaooidckmepdeaaDoorGi
namespace Go.Proofs.YtaooidckmepdeaaDoor
set_option linter.unusedSimpArgs false
set_option linter.unusedVariables false
open Go.RowKit
theorem oa_is (a b : Ls) : (oa a b).isSome = (a.isSome && b.isSome) := by cases a <;> cases b <;> rfl
theorem eNat_is (n : Nat) (v : Int) : (eNat n v).isSome = decide (0 ≤ v ∧ v < ((256 ^ n : Nat) : Int)) := by
  unfold eNat
  split <;> simp_all
theorem more_z (r : List Nat) : moreB bdz r = false := by
  unfold moreB
  apply any_range_false
  intro f hf
  have : hasK (kd f) (bdz f) = false := by
    rw [show bdz f = fz from rfl]
    rcases kd_cases f with q | q | q | q | q | q | q <;> rw [q] <;> decide +kernel
  rw [this]; rfl
theorem eK_z (k : Nat) : (eK k fz).isSome = true := by
  unfold eK
  repeat' split
  all_goals decide +kernel
theorem eFs_z (r : List Nat) : (eFs bdz r).isSome = true := by
  induction r with
  | nil => rfl
  | cons f r ih => simp only [eFs]; rw [oa_is, ih]; rw [show bdz f = fz from rfl, eK_z]; rfl
theorem reqE_z (i : Int) : (reqE 3 i bdz).isSome = decide (0 ≤ i ∧ i ≤ 4294967295) := by
  unfold reqE msgE
  rw [show rowQ 3 = some [] from rfl]
  simp only [more_z, eNs]
  rw [if_neg (by decide), oa_is, oa_is, oa_is, eNat_is, eNat_is, eFs_z]
  rw [Bool.eq_iff_iff]
  simp
  omega
theorem reqE_zl {i : Int} {L : List Nat} (h : reqE 3 i bdz = some L) : L.length = 5 := by
  unfold reqE msgE at h
  rw [show rowQ 3 = some [] from rfl] at h
  simp only [more_z, eNs, eFs] at h
  rw [if_neg (by decide)] at h
  obtain ⟨A, C, h1, h2, rfl⟩ := oa_some h
  obtain ⟨A1, A2, h3, h4, rfl⟩ := oa_some h1
  obtain ⟨A3, A4, h5, h6, rfl⟩ := oa_some h4
  simp only [Option.some.injEq] at h2 h6
  subst h2 h6
  unfold eNat at h3 h5
  split at h3 <;> split at h5 <;> simp_all
  subst h3 h5
  simp [lay_len]
theorem rowA_is (k : Int) : (rowA k).isSome = decide (0 ≤ k ∧ k ≤ 8) := by
  unfold rowA
  repeat' split
  all_goals (simp; omega)
theorem ansRow_is (k c : Int) : (ansRow k c).isSome = (decide (0 ≤ k ∧ k ≤ 8) && (decide (c ≠ 0) || decide (k ≠ 0))) := by
  unfold ansRow
  by_cases hc : c = 0
  · rw [if_pos hc]
    by_cases hk : k = 0
    · simp [hc, hk]
    · rw [if_neg hk, rowA_is]; simp [hc, hk]
  · rw [if_neg hc, Option.isSome_map, rowA_is]; simp [hc]
theorem resE_z (k i c : Int) : (resE k i c bdz).isSome = decide (0 ≤ i ∧ i ≤ 4294967295 ∧ 0 ≤ k ∧ k ≤ 8 ∧ 0 ≤ c ∧ c ≤ 255 ∧ (0 < c ∨ 0 < k)) := by
  have hA := ansRow_is k c
  unfold resE msgE
  cases hr : ansRow k c with
  | none =>
    rw [hr] at hA
    simp at hA ⊢
    omega
  | some r =>
    rw [hr] at hA
    simp only [more_z, eNs]
    rw [if_neg (by decide), oa_is, oa_is, oa_is, oa_is, eNat_is, eNat_is, eNat_is, eFs_z]
    simp at hA ⊢
    rw [Bool.eq_iff_iff]
    simp
    omega
end Go.Proofs.YtaooidckmepdeaaDoor
