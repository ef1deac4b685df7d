/- The table of block 0, without a walk: which home each data block stands for, its bytes, what is read out of them. -/
import Derived.Test.YtohncckmennfbaaDoorCrc
import Derived.Test.YtohncckmennfbaaDoorMem
namespace Go.Proofs.YtohncckmennfbaaDoor
set_option linter.unusedSimpArgs false
set_option linter.unusedVariables false
/-- Σ f j * 256^j, j < n. -/
def sm (f : Nat → Nat) : Nat → Nat
  | 0 => 0
  | n + 1 => sm f n + f n * 256 ^ n
theorem sm_lt (f : Nat → Nat) (hf : ∀ j, f j < 256) (n : Nat) : sm f n < 256 ^ n := by
  induction n with
  | zero => simp [sm]
  | succ n ih =>
    have h1 : f n * 256 ^ n ≤ 255 * 256 ^ n := Nat.mul_le_mul_right _ (by have := hf n; omega)
    simp only [sm, Nat.pow_succ]
    omega
theorem sm_congr (f g : Nat → Nat) (n : Nat) (h : ∀ j, j < n → f j = g j) : sm f n = sm g n := by
  induction n with
  | zero => rfl
  | succ n ih => simp only [sm]; rw [ih (fun j hj => h j (by omega)), h n (by omega)]
def plc (size : Nat) (big : Bool) (i : Nat) : Nat := if big then size - 1 - i else i
/-- The number of the bytes from p on. -/
def getV (l : List Nat) (p size : Nat) (big : Bool) : Nat := sm (fun j => l.getD (p + plc size big j) 0) size
/-- The bytes with the least 'size' bytes of V laid at p. -/
def putL (l : List Nat) (p size : Nat) (big : Bool) (V : Nat) : List Nat := (List.range l.length).map fun i => if p ≤ i ∧ i < p + size then V / 256 ^ plc size big (i - p) % 256 else l.getD i 0
theorem putL_length (l : List Nat) (p size : Nat) (big : Bool) (V : Nat) : (putL l p size big V).length = l.length := by simp [putL]
theorem putL_get (l : List Nat) (p size : Nat) (big : Bool) (V i : Nat) (h : i < l.length) : (putL l p size big V).getD i 0 = if p ≤ i ∧ i < p + size then V / 256 ^ plc size big (i - p) % 256 else l.getD i 0 := by
  simp [putL, List.getD, h]
theorem putL_lt (l : List Nat) (p size : Nat) (big : Bool) (V : Nat) (h : ∀ i, l.getD i 0 < 256) : ∀ i, (putL l p size big V).getD i 0 < 256 := by
  intro i
  by_cases hi : i < l.length
  · rw [putL_get _ _ _ _ _ _ hi]; split
    · omega
    · exact h i
  · rw [getD_out _ _ (by rw [putL_length]; omega)]; omega
/-- The magic word. -/
def mag : List Nat := [66, 79, 76, 76, 65, 82, 68, 74]
def bodyB (num : Nat → Nat) (i : Nat) : Nat :=
  if i < 8 then mag.getD i 0 else if i < 488 then (if (i - 8) % 2 = 0 then num ((i - 8) / 2) % 256 else num ((i - 8) / 2) / 256 % 256) else 0
def bodyL (num : Nat → Nat) : List Nat := (List.range 512).map (bodyB num)
theorem bodyL_len (num : Nat → Nat) : (bodyL num).length = 512 := by simp [bodyL]
theorem bodyL_get (num : Nat → Nat) (i : Nat) (h : i < 512) : (bodyL num).getD i 0 = bodyB num i := by simp [bodyL, List.getD, h]
theorem mag_lt : ∀ i, mag.getD i 0 < 256 := by
  intro i
  by_cases h : i < 8
  · have : ∀ j : Fin 8, mag.getD j.val 0 < 256 := by decide
    exact this ⟨i, h⟩
  · rw [getD_out _ _ (by simp [mag]; omega)]; omega
theorem bodyB_lt (num : Nat → Nat) (i : Nat) : bodyB num i < 256 := by
  have := mag_lt i
  unfold bodyB
  repeat' split
  all_goals omega
theorem bodyL_lt (num : Nat → Nat) (i : Nat) : (bodyL num).getD i 0 < 256 := by
  by_cases h : i < 512
  · rw [bodyL_get _ _ h]; exact bodyB_lt _ _
  · rw [getD_out _ _ (by rw [bodyL_len]; omega)]; omega
theorem bodyL_congr {a b : Nat → Nat} (h : ∀ q, q < 240 → a q = b q) : bodyL a = bodyL b := by
  apply list_ext (by simp [bodyL_len])
  intro i hi
  rw [bodyL_len] at hi
  rw [bodyL_get _ _ hi, bodyL_get _ _ hi]
  unfold bodyB
  by_cases h1 : i < 8
  · simp [h1]
  · by_cases h2 : i < 488
    · simp [h1, h2, h ((i - 8) / 2) (by omega)]
    · simp [h1, h2]
theorem body_put (num : Nat → Nat) (q h : Nat) (hq : q < 240) (hh : h < 65536) : putL (bodyL num) (8 + 2 * q) 2 false h = bodyL (fun x => if x = q then h else num x) := by
  apply list_ext (by rw [putL_length, bodyL_len, bodyL_len])
  intro i hi
  rw [putL_length, bodyL_len] at hi
  rw [putL_get _ _ _ _ _ _ (by rw [bodyL_len]; exact hi), bodyL_get _ _ hi, bodyL_get _ _ hi]
  unfold bodyB plc
  by_cases h1 : i < 8
  · simp [h1, show ¬ (8 + 2 * q ≤ i) by omega]
  · by_cases h2 : i < 488
    · by_cases h3 : (i - 8) / 2 = q
      · rw [if_pos (by omega)]
        simp only [h1, h2, if_false, if_true, h3, Bool.false_eq_true]
        by_cases h4 : (i - 8) % 2 = 0
        · rw [if_pos h4, show i - (8 + 2 * q) = 0 by omega, Nat.pow_zero, Nat.div_one]
        · rw [if_neg h4, show i - (8 + 2 * q) = 1 by omega, Nat.pow_one]
      · rw [if_neg (by omega)]
        simp [h1, h2, h3]
    · rw [if_neg (by omega)]
      simp [h1, h2]
theorem getD_app2 (l m : List Nat) (i : Nat) : (l ++ m).getD i 0 = if i < l.length then l.getD i 0 else m.getD (i - l.length) 0 := by
  unfold List.getD
  rw [List.getElem?_append]
  split <;> rfl
theorem getD_rep (n i : Nat) : (List.replicate n 0).getD i 0 = 0 := by
  unfold List.getD
  rw [List.getElem?_replicate]
  split <;> rfl
theorem body_zero : bodyL (fun _ => 0) = mag ++ List.replicate 504 0 := by
  have hm : mag.length = 8 := rfl
  apply list_ext (by rw [bodyL_len, List.length_append, List.length_replicate, hm])
  intro i hi
  rw [bodyL_len] at hi
  rw [bodyL_get _ _ hi, getD_app2, getD_rep, hm]
  unfold bodyB
  by_cases h1 : i < 8
  · rw [if_pos h1, if_pos h1]
  · rw [if_neg h1, if_neg h1]
    split
    · split <;> simp
    · rfl
/-- The whole block, its sum too. -/
def tabN (num : Nat → Nat) : List Nat := putL (bodyL num) 508 4 false (P.sum ((bodyL num).take 508))
theorem tabN_len (num : Nat → Nat) : (tabN num).length = 512 := by rw [tabN, putL_length, bodyL_len]
theorem tabN_lt (num : Nat → Nat) : ∀ i, (tabN num).getD i 0 < 256 := putL_lt _ _ _ _ _ (bodyL_lt num)
theorem tabN_low (num : Nat → Nat) (i : Nat) (h : i < 508) : (tabN num).getD i 0 = bodyB num i := by
  rw [tabN, putL_get _ _ _ _ _ _ (by rw [bodyL_len]; omega), if_neg (by omega), bodyL_get _ _ (by omega)]
theorem tabN_take (num : Nat → Nat) : (tabN num).take 508 = (bodyL num).take 508 := by
  apply list_ext (by simp [tabN_len, bodyL_len])
  intro i hi
  have hi' : i < 508 := by simp at hi; omega
  have e : ∀ l : List Nat, (l.take 508).getD i 0 = l.getD i 0 := fun l => by simp [List.getD, List.getElem?_take, hi']
  rw [e, e, tabN_low _ _ hi', bodyL_get _ _ (by omega)]
theorem digits4 (V : Nat) (h : V < 4294967296) : V % 256 + V / 256 % 256 * 256 + V / 65536 % 256 * 65536 + V / 16777216 % 256 * 16777216 = V := by omega
theorem tabN_sum (num : Nat → Nat) (h : P.sum ((bodyL num).take 508) < 4294967296) : getV (tabN num) 508 4 false = P.sum ((tabN num).take 508) := by
  rw [tabN_take]
  have e : ∀ j, j < 4 → (tabN num).getD (508 + plc 4 false j) 0 = P.sum ((bodyL num).take 508) / 256 ^ j % 256 := by
    intro j hj
    rw [tabN, putL_get _ _ _ _ _ _ (by rw [bodyL_len]; simp [plc]; omega), if_pos (by simp [plc]; omega)]
    simp [plc]
  unfold getV
  rw [sm_congr _ (fun j => P.sum ((bodyL num).take 508) / 256 ^ j % 256) 4 e]
  generalize P.sum ((bodyL num).take 508) = V at *
  have := digits4 V h
  simp only [sm]
  omega
theorem tabN_num (num : Nat → Nat) (q : Nat) (hq : q < 240) (h : num q < 65536) : getV (tabN num) (8 + 2 * q) 2 false = num q := by
  have e : ∀ j, j < 2 → (tabN num).getD (8 + 2 * q + plc 2 false j) 0 = num q / 256 ^ j % 256 := by
    intro j hj
    rw [tabN_low _ _ (by simp [plc]; omega)]
    have hp : plc 2 false j = j := by simp [plc]
    rw [hp]
    unfold bodyB
    rw [if_neg (by omega), if_pos (by omega), show (8 + 2 * q + j - 8) / 2 = q by omega]
    rcases (show j = 0 ∨ j = 1 by omega) with rfl | rfl
    · rw [if_pos (by omega), Nat.pow_zero, Nat.div_one]
    · rw [if_neg (by omega), Nat.pow_one]
  unfold getV
  rw [sm_congr _ (fun j => num q / 256 ^ j % 256) 2 e]
  simp only [sm]
  omega
/-- Which home a data block stands for, of what is committed: a list a slot. -/
def hm (T : List (List Nat)) (q : Nat) : Nat := (T.getD (q / 60) []).getD (q % 60) 0
def tabL (T : List (List Nat)) : List Nat := tabN (hm T)
structure GoodT (n : Nat) (T : List (List Nat)) : Prop where
  four : T.length ≤ 4
  some : ∀ s, s < T.length → T.getD s [] ≠ []
  few : ∀ s, (T.getD s []).length ≤ 60
  nd : ∀ s, (T.getD s []).Nodup
  home : ∀ s, ∀ h ∈ T.getD s [], 245 ≤ h ∧ h < n
theorem GoodT.nil (n : Nat) : GoodT n [] := ⟨by simp, by simp, by simp, by simp, by simp⟩
/-- The data block of a home in a slot. -/
def dat (T : List (List Nat)) (s k : Nat) : Nat := 1 + 60 * s + (T.getD s []).idxOf k
def findN (T : List (List Nat)) (k : Nat) : Nat → Nat
  | 0 => k
  | s + 1 => if k ∈ T.getD s [] then dat T s k else findN T k s
def find (T : List (List Nat)) (k : Nat) : Nat := findN T k T.length
theorem hm_dat {n : Nat} {T : List (List Nat)} (h : GoodT n T) {s k : Nat} (hk : k ∈ T.getD s []) : hm T (60 * s + (T.getD s []).idxOf k) = k := by
  have h1 : (T.getD s []).idxOf k < (T.getD s []).length := List.idxOf_lt_length_iff.2 hk
  have h2 := h.few s
  unfold hm
  rw [show (60 * s + (T.getD s []).idxOf k) / 60 = s by omega, show (60 * s + (T.getD s []).idxOf k) % 60 = (T.getD s []).idxOf k by omega]
  rw [List.getD_eq_getElem?_getD, List.getElem?_eq_getElem h1]
  simp
theorem hm_mem {T : List (List Nat)} {q : Nat} (h : hm T q ≠ 0) : hm T q ∈ T.getD (q / 60) [] := by
  unfold hm at h ⊢
  by_cases hi : q % 60 < (T.getD (q / 60) []).length
  · simp only [List.getD_eq_getElem?_getD (l := T.getD (q / 60) []), List.getElem?_eq_getElem hi, Option.getD_some]
    exact List.getElem_mem hi
  · exact absurd (by rw [List.getD_eq_getElem?_getD (l := T.getD (q / 60) []), List.getElem?_eq_none (by omega)]; rfl) h
theorem slot_lt {T : List (List Nat)} {s k : Nat} (h : k ∈ T.getD s []) : s < T.length := by
  by_cases hs : s < T.length
  · exact hs
  · rw [List.getD_eq_getElem?_getD, List.getElem?_eq_none (by omega)] at h; simp at h
theorem dat_lt {n : Nat} {T : List (List Nat)} (h : GoodT n T) {s k : Nat} (hk : k ∈ T.getD s []) : 60 * s < dat T s k ∧ dat T s k ≤ 60 * s + 60 ∧ dat T s k ≤ 240 := by
  have h1 : (T.getD s []).idxOf k < (T.getD s []).length := List.idxOf_lt_length_iff.2 hk
  have h2 := h.few s
  have h3 := slot_lt hk
  have h4 := h.four
  unfold dat
  omega
theorem idx_hm {n : Nat} {T : List (List Nat)} (h : GoodT n T) {q : Nat} (hq : hm T q ≠ 0) : (T.getD (q / 60) []).idxOf (hm T q) = q % 60 := by
  unfold hm at hq ⊢
  by_cases hi : q % 60 < (T.getD (q / 60) []).length
  · rw [List.getD_eq_getElem?_getD (l := T.getD (q / 60) []), List.getElem?_eq_getElem hi, Option.getD_some]
    exact (h.nd (q / 60)).idxOf_getElem _ hi
  · exact absurd (by rw [List.getD_eq_getElem?_getD (l := T.getD (q / 60) []), List.getElem?_eq_none (by omega)]; rfl) hq
theorem hm_lt {n : Nat} {T : List (List Nat)} (h : GoodT n T) (hn : n ≤ 65536) (q : Nat) : hm T q < 65536 := by
  by_cases h0 : hm T q = 0
  · omega
  · have := (h.home _ _ (hm_mem h0)).2; omega
theorem findN_cases {n : Nat} {T : List (List Nat)} (h : GoodT n T) (k : Nat) : ∀ m, m ≤ T.length → (findN T k m = k ∧ ∀ s, s < m → k ∉ T.getD s []) ∨ ∃ s, s < m ∧ k ∈ T.getD s [] ∧ findN T k m = dat T s k
  | 0, _ => .inl ⟨rfl, by intro s hs; omega⟩
  | m + 1, hm => by
    unfold findN
    by_cases hk : k ∈ T.getD m []
    · rw [if_pos hk]; exact .inr ⟨m, by omega, hk, rfl⟩
    · rw [if_neg hk]
      rcases findN_cases h k m (by omega) with ⟨a, b⟩ | ⟨s, a, b, c⟩
      · refine .inl ⟨a, fun s hs => ?_⟩
        by_cases e : s = m
        · subst e; exact hk
        · exact b s (by omega)
      · exact .inr ⟨s, by omega, b, c⟩
/-- Where a home's last commit lies: at home, and then no slot has it, or in a slot's block. -/
theorem find_cases {n : Nat} {T : List (List Nat)} (h : GoodT n T) (k : Nat) : (find T k = k ∧ ∀ s, k ∉ T.getD s []) ∨ ∃ s, s < T.length ∧ k ∈ T.getD s [] ∧ find T k = dat T s k := by
  rcases findN_cases h k T.length (Nat.le_refl _) with ⟨a, b⟩ | q
  · exact .inl ⟨a, fun s c => b s (slot_lt c) c⟩
  · exact .inr q
theorem findN_app (T : List (List Nat)) (l : List Nat) (k : Nat) : ∀ m, m ≤ T.length → findN (T ++ [l]) k m = findN T k m
  | 0, _ => rfl
  | m + 1, h => by
    have e : (T ++ [l]).getD m [] = T.getD m [] := by simp [List.getD, List.getElem?_append, show m < T.length by omega]
    unfold findN dat
    rw [e, findN_app T l k m (by omega)]
theorem getD_app (T : List (List Nat)) (l : List Nat) (s : Nat) : (T ++ [l]).getD s [] = if s = T.length then l else T.getD s [] := by
  by_cases h : s < T.length
  · simp [List.getD, List.getElem?_append, h, show s ≠ T.length by omega]
  · by_cases e : s = T.length
    · subst e; simp [List.getD]
    · rw [if_neg e]
      simp only [List.getD]
      rw [List.getElem?_eq_none (by simp; omega), List.getElem?_eq_none (by omega)]
theorem find_app (T : List (List Nat)) (l : List Nat) (k : Nat) : find (T ++ [l]) k = if k ∈ l then 1 + 60 * T.length + l.idxOf k else find T k := by
  have e : (T ++ [l]).getD T.length [] = l := by rw [getD_app, if_pos rfl]
  unfold find
  rw [List.length_append, List.length_singleton]
  rw [show findN (T ++ [l]) k (T.length + 1) = if k ∈ (T ++ [l]).getD T.length [] then dat (T ++ [l]) T.length k else findN (T ++ [l]) k T.length from rfl, e, findN_app T l k _ (Nat.le_refl _)]
  unfold dat
  rw [e]
theorem GoodT.app {n : Nat} {T : List (List Nat)} {l : List Nat} (h : GoodT n T) (h3 : T.length < 4) (hne : l ≠ []) (hf : l.length ≤ 60) (hd : l.Nodup) (hh : ∀ k ∈ l, 245 ≤ k ∧ k < n) : GoodT n (T ++ [l]) := by
  refine ⟨by simp; omega, fun s hs => ?_, fun s => ?_, fun s => ?_, fun s => ?_⟩ <;> rw [getD_app] <;> split
  · exact hne
  · exact h.some s (by simp at hs; omega)
  · exact hf
  · exact h.few s
  · exact hd
  · exact h.nd s
  · exact hh
  · exact h.home s
end Go.Proofs.YtohncckmennfbaaDoor
