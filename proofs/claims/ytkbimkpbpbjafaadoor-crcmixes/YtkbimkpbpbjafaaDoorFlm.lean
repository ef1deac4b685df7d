/- A change within four neighbouring bytes: plain numbers. -/
import Derived.Test.YtkbimkpbpbjafaaDoorSqr
namespace Go.Proofs.YtkbimkpbpbjafaaDoor
set_option linter.unusedSimpArgs false
set_option linter.unusedVariables false
open Go.RowKit
def dg (X i : Nat) : Nat := X / 256 ^ i % 256
/-- What is laid over: the k bytes of X from p on. -/
def ovr (p X k n : Nat) : List Nat := List.replicate p 0 ++ (List.range k).map (dg X) ++ List.replicate (n - p - k) 0
theorem ovr_len (p X k n : Nat) (h : p + k ≤ n) : (ovr p X k n).length = n := by simp [ovr]; omega
theorem ovr_get (p X k n i : Nat) : (ovr p X k n).getD i 0 = if p ≤ i ∧ i < p + k then dg X (i - p) else 0 := by
  unfold ovr
  simp only [List.getD, List.getElem?_append, List.length_append, List.length_replicate, List.length_map, List.length_range, List.getElem?_replicate, List.getElem?_map, List.getElem?_range']
  by_cases h1 : i < p
  · simp [h1, show i < p + k by omega, show ¬ p ≤ i by omega]
  · by_cases h2 : i < p + k
    · have h3 : i - p < k := by omega
      simp [h1, h2, show p ≤ i by omega, List.getElem?_range h3]
    · simp only [h2, h1, if_false]
      split <;> simp
structure FAt (l : List Nat) (p X k : Nat) (cur : List Nat) (ch : Bool) : Prop where
  len : cur.length = l.length
  at' : ∀ i, i < l.length → cur.getD i 0 = l.getD i 0 ^^^ (if p ≤ i ∧ i < p + k then dg X (i - p) else 0)
  chg : ch = true ↔ ∃ i, i < k ∧ dg X i ≠ 0
theorem FAt.start (l : List Nat) (p X : Nat) : FAt l p X 0 l false := ⟨rfl, fun i hi => by rw [if_neg (by omega), Nat.xor_zero], by simp⟩
theorem FAt.step {l : List Nat} {p X k : Nat} {cur : List Nat} {ch : Bool} (h : FAt l p X k cur ch) (hp : p + k < l.length) :
    FAt l p X (k + 1) (cur.set (p + k) (cur.getD (p + k) 0 ^^^ dg X k)) (ch || decide (dg X k ≠ 0)) := by
  refine ⟨by simp [h.len], fun i hi => ?_, ?_⟩
  · rw [getD_set _ _ _ _ (by rw [h.len]; exact hi)]
    by_cases e : p + k = i
    · subst e
      rw [if_pos rfl, h.at' _ hi, if_neg (by omega), Nat.xor_zero, if_pos (by omega), Nat.add_sub_cancel_left]
    · rw [if_neg e, h.at' i hi]
      by_cases hin : p ≤ i ∧ i < p + k
      · rw [if_pos hin, if_pos (by omega)]
      · rw [if_neg hin, if_neg (by omega)]
  · rw [Bool.or_eq_true, h.chg, decide_eq_true_eq]
    constructor
    · rintro (⟨i, hi, hd⟩ | hd)
      · exact ⟨i, by omega, hd⟩
      · exact ⟨k, by omega, hd⟩
    · rintro ⟨i, hi, hd⟩
      by_cases e : i = k
      · subst e; exact .inr hd
      · exact .inl ⟨i, by omega, hd⟩
theorem FAt.done {l : List Nat} {p X k : Nat} {cur : List Nat} {ch : Bool} (h : FAt l p X k cur ch) (hp : p + k ≤ l.length) : cur = List.zipWith (· ^^^ ·) l (ovr p X k l.length) := by
  have hl := ovr_len p X k l.length hp
  apply list_ext (by rw [h.len, List.length_zipWith, hl, Nat.min_self])
  intro i hi
  rw [h.len] at hi
  rw [h.at' i hi, ← ovr_get p X k l.length i]
  have hi2 : i < (ovr p X k l.length).length := by rw [hl]; exact hi
  simp only [List.getD, List.getElem?_zipWith, List.getElem?_eq_getElem hi, List.getElem?_eq_getElem hi2, Option.getD_some]
theorem FAt.sums {l : List Nat} {p X k : Nat} {cur : List Nat} {ch : Bool} (h : FAt l p X k cur ch) (hp : p + k ≤ l.length) (hk : k ≤ 4) : P.sum cur ≠ P.sum l ↔ ch = true := by
  have hc := h.done hp
  have hl := ovr_len p X k l.length hp
  have hs := P.sum_diff l (ovr p X k l.length) hl.symm
  rw [← hc] at hs
  rw [hs, Ne, P.xor_zero_iff, h.chg]
  constructor
  · intro hne
    apply Classical.byContradiction
    intro hall
    apply hne
    have hz : (List.range k).map (dg X) = List.replicate k 0 := by
      apply List.eq_replicate_iff.2
      refine ⟨by simp, ?_⟩
      intro b hb
      simp only [List.mem_map, List.mem_range] at hb
      obtain ⟨i, hi, rfl⟩ := hb
      apply Classical.byContradiction
      intro hd
      exact hall ⟨i, hi, hd⟩
    unfold ovr
    rw [hz, P.reg_append, P.reg_append, P.reg_zeros, P.reg_zeros, P.reg_zeros, P.shN_zero, P.shN_zero, P.shN_zero]
  · rintro ⟨i, hi, hd⟩ h0
    apply hd
    have hb := P.burst p (l.length - p - k) ((List.range k).map (dg X)) (by
      intro x hx
      simp only [List.mem_map, List.mem_range] at hx
      obtain ⟨j, _, rfl⟩ := hx
      exact Nat.mod_lt _ (by decide)) (by simpa using hk) h0
    exact hb (dg X i) (by simp only [List.mem_map, List.mem_range]; exact ⟨i, hi, rfl⟩)
theorem byte_at (V j : Nat) : (V : Int) / 2 ^ (8 * j) % 256 = ((dg V j : Nat) : Int) := by
  unfold dg
  rw [show (256 : Nat) = 2 ^ 8 from rfl, ← Nat.pow_mul]
  simp
theorem dg_lt (X i : Nat) : dg X i < 256 := Nat.mod_lt _ (by decide)
end Go.Proofs.YtkbimkpbpbjafaaDoor
