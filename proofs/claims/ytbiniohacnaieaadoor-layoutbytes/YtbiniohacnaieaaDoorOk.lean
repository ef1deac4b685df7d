/- What Make told, in numbers. -/
import Derived.Test.YtbiniohacnaieaaDoorMr
namespace Go.Proofs.YtbiniohacnaieaaDoor
set_option linter.unusedSimpArgs false
set_option linter.unusedVariables false
open Go.RowKit
/-- What Make told. -/
theorem mk_ok (n i : Int) (h : mkE n i = 0) : ∃ T m : Int, mkP n i = ⟨n, i, 246, 247, 247 + m, 247 + m + T, n - (247 + m + T)⟩ ∧ 1 ≤ n ∧ n ≤ 65536 ∧ 1 ≤ i ∧ i ≤ 4096 ∧ i ≤ T * 8 ∧ (T - 1) * 8 < i ∧ 1 ≤ m ∧ m ≤ 20 ∧ n - (247 + m + T) ≤ m * 4096 ∧ (m = 1 ∨ (m - 1) * 4096 < n - (247 + m + T) + 1) ∧ 1 ≤ n - (247 + m + T) := by
  have hp : mkP n i = ⟨n, i, 246, 247, 247 + mapN (n - 247 - tabN i), dataN n i, n - dataN n i⟩ := by unfold mkP; rw [if_pos h]
  unfold mkE at h
  by_cases ho : mkOk n i
  · rw [if_pos ho] at h
    obtain ⟨h1, h2, h3, h4⟩ := ho
    by_cases hd : n - dataN n i < 1
    · rw [if_pos hd] at h; omega
    · refine ⟨tabN i, mapN (n - 247 - tabN i), hp, h1, h2, h3, h4, ?_⟩
      unfold dataN at hd
      have hm := mapN_bd (n - 247 - tabN i) (by have := tabN_bd i h3 h4; omega)
      have ht : i ≤ tabN i * 8 ∧ (tabN i - 1) * 8 < i := by unfold tabN; omega
      generalize tabN i = T at *
      refine ⟨ht.1, ht.2, hm.1, hm.2, ?_⟩
      have hmm : mapN (n - 247 - T) = if n - 247 - T ≤ 4097 then 1 else (n - 247 - T + 4096) / 4097 := rfl
      generalize mapN (n - 247 - T) = m at *
      split at hmm <;> omega
  · rw [if_neg ho] at h; omega
end Go.Proofs.YtbiniohacnaieaaDoor
