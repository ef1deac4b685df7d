/- A superblock's bytes, without a walk. -/
import Derived.Test.YtbiniohacnaieaaDoorOk
namespace Go.Proofs.YtbiniohacnaieaaDoor
set_option linter.unusedSimpArgs false
set_option linter.unusedVariables false
/-- The magic word. -/
def mag : List Nat := [66, 79, 76, 76, 65, 82, 68, 83]
def bodyB (num : Nat → Nat) (i : Nat) : Nat :=
  if i < 8 then mag.getD i 0 else if i < 36 then num ((i - 8) / 4) / 256 ^ ((i - 8) % 4) % 256 else 0
def bodyL (num : Nat → Nat) : List Nat := (List.range 512).map (bodyB num)
theorem bodyL_len (num : Nat → Nat) : (bodyL num).length = 512 := by simp [bodyL]
theorem bodyL_get (num : Nat → Nat) (i : Nat) (h : i < 512) : (bodyL num).getD i 0 = bodyB num i := by simp [bodyL, List.getD, h]
theorem mag_lt : ∀ i, mag.getD i 0 < 256 := by
  intro i
  by_cases h : i < 8
  · have : ∀ j : Fin 8, mag.getD j.val 0 < 256 := by decide
    exact this ⟨i, h⟩
  · rw [getD_out _ _ (by simp [mag]; omega)]; omega
theorem bodyB_lt (num : Nat → Nat) (i : Nat) : bodyB num i < 256 := by
  have := mag_lt i
  unfold bodyB
  repeat' split
  all_goals omega
theorem bodyL_lt (num : Nat → Nat) (i : Nat) : (bodyL num).getD i 0 < 256 := by
  by_cases h : i < 512
  · rw [bodyL_get _ _ h]; exact bodyB_lt _ _
  · rw [getD_out _ _ (by rw [bodyL_len]; omega)]; omega
theorem bodyL_congr {a b : Nat → Nat} (h : ∀ q, q < 7 → a q = b q) : bodyL a = bodyL b := by
  apply list_ext (by simp [bodyL_len])
  intro i hi
  rw [bodyL_len] at hi
  rw [bodyL_get _ _ hi, bodyL_get _ _ hi]
  unfold bodyB
  by_cases h1 : i < 8
  · simp [h1]
  · by_cases h2 : i < 36
    · simp [h1, h2, h ((i - 8) / 4) (by omega)]
    · simp [h1, h2]
theorem body_put (num : Nat → Nat) (q V : Nat) (hq : q < 7) : putL (bodyL num) (8 + 4 * q) 4 false V = bodyL (fun x => if x = q then V else num x) := by
  apply list_ext (by rw [putL_length, bodyL_len, bodyL_len])
  intro i hi
  rw [putL_length, bodyL_len] at hi
  rw [putL_get _ _ _ _ _ _ (by rw [bodyL_len]; exact hi), bodyL_get _ _ hi, bodyL_get _ _ hi]
  unfold bodyB plc
  by_cases h1 : i < 8
  · simp [h1, show ¬ (8 + 4 * q ≤ i) by omega]
  · by_cases h2 : i < 36
    · by_cases h3 : (i - 8) / 4 = q
      · rw [if_pos (by omega)]
        simp only [h1, h2, if_false, if_true, h3, Bool.false_eq_true]
        rw [show i - (8 + 4 * q) = (i - 8) % 4 by omega]
      · rw [if_neg (by omega)]
        simp [h1, h2, h3]
    · rw [if_neg (by omega)]
      simp [h1, h2]
theorem getD_app2 (l m : List Nat) (i : Nat) : (l ++ m).getD i 0 = if i < l.length then l.getD i 0 else m.getD (i - l.length) 0 := by
  unfold List.getD
  rw [List.getElem?_append]
  split <;> rfl
theorem getD_rep (n i : Nat) : (List.replicate n 0).getD i 0 = 0 := by
  unfold List.getD
  rw [List.getElem?_replicate]
  split <;> rfl
theorem body_zero : bodyL (fun _ => 0) = mag ++ List.replicate 504 0 := by
  have hm : mag.length = 8 := rfl
  apply list_ext (by rw [bodyL_len, List.length_append, List.length_replicate, hm])
  intro i hi
  rw [bodyL_len] at hi
  rw [bodyL_get _ _ hi, getD_app2, getD_rep, hm]
  unfold bodyB
  by_cases h1 : i < 8
  · rw [if_pos h1, if_pos h1]
  · rw [if_neg h1, if_neg h1]
    split
    · simp
    · rfl
theorem take_get (l : List Nat) (n i : Nat) (h : i < n) : (l.take n).getD i 0 = l.getD i 0 := by simp [List.getD, List.getElem?_take, h]
/-- The sum of the 36 bytes. -/
def sumN (num : Nat → Nat) : Nat := P.sum ((bodyL num).take 36)
/-- The whole superblock. -/
def encL (num : Nat → Nat) : List Nat := putL (bodyL num) 36 4 false (sumN num)
theorem encL_len (num : Nat → Nat) : (encL num).length = 512 := by rw [encL, putL_length, bodyL_len]
theorem encL_lt (num : Nat → Nat) : ∀ i, (encL num).getD i 0 < 256 := putL_lt _ _ _ _ _ (bodyL_lt num)
theorem encL_low (num : Nat → Nat) (i : Nat) (h : i < 36) : (encL num).getD i 0 = bodyB num i := by
  rw [encL, putL_get _ _ _ _ _ _ (by rw [bodyL_len]; omega), if_neg (by omega), bodyL_get _ _ (by omega)]
theorem encL_sum (num : Nat → Nat) (k : Nat) (h : k < 4) : (encL num).getD (36 + k) 0 = sumN num / 256 ^ k % 256 := by
  rw [encL, putL_get _ _ _ _ _ _ (by rw [bodyL_len]; omega), if_pos (by omega)]
  simp [plc]
theorem encL_high (num : Nat → Nat) (i : Nat) (h : 40 ≤ i) : (encL num).getD i 0 = 0 := by
  by_cases h2 : i < 512
  · rw [encL, putL_get _ _ _ _ _ _ (by rw [bodyL_len]; omega), if_neg (by omega), bodyL_get _ _ h2]
    unfold bodyB
    rw [if_neg (by omega), if_neg (by omega)]
  · rw [getD_out _ _ (by rw [encL_len]; omega)]
theorem encL_take (num : Nat → Nat) : (encL num).take 36 = (bodyL num).take 36 := by
  apply list_ext (by simp [encL_len, bodyL_len])
  intro i hi
  have hi' : i < 36 := by simp at hi; omega
  rw [take_get _ _ _ hi', take_get _ _ _ hi', encL_low _ _ hi', bodyL_get _ _ (by omega)]
theorem take_step (l : List Nat) (n : Nat) (h : n < l.length) : l.take n ++ [l.getD n 0] = l.take (n + 1) := by
  rw [List.take_add_one, List.getElem?_eq_getElem h]
  simp [List.getD, h]
theorem mem_lt {l : List Nat} (h : ∀ i, l.getD i 0 < 256) : ∀ x, x ∈ l → x < 256 := by
  intro x hx
  obtain ⟨i, hi, rfl⟩ := List.getElem_of_mem hx
  have := h i
  simpa [List.getD, hi] using this
theorem sumN_lt (num : Nat → Nat) : sumN num < 4294967296 := sum_lt _ (fun x hx => mem_lt (bodyL_lt num) x (List.mem_of_mem_take hx))
theorem dig4 {a b : Nat} (ha : a < 4294967296) (hb : b < 4294967296) (h : ∀ k, k < 4 → a / 256 ^ k % 256 = b / 256 ^ k % 256) : a = b := by
  have h0 := h 0 (by omega)
  have h1 := h 1 (by omega)
  have h2 := h 2 (by omega)
  have h3 := h 3 (by omega)
  simp only [show (256 : Nat) ^ 0 = 1 from rfl, show (256 : Nat) ^ 1 = 256 from rfl, show (256 : Nat) ^ 2 = 65536 from rfl, show (256 : Nat) ^ 3 = 16777216 from rfl] at h0 h1 h2 h3
  omega
/-- A change of one byte is seen. -/
theorem enc_flip (num num' : Nat → Nat) (j d : Nat) (hj : j < 512) (hd : 0 < d) (hd2 : d < 256) (h : encL num' = (encL num).set j ((encL num).getD j 0 ^^^ d)) : False := by
  have hg : ∀ i, i < 512 → (encL num').getD i 0 = if j = i then (encL num).getD j 0 ^^^ d else (encL num).getD i 0 := fun i hi => by
    rw [h, getD_set _ _ _ _ (by rw [encL_len]; exact hi)]
  have hne : (encL num).getD j 0 ^^^ d ≠ (encL num).getD j 0 := fun c => by
    have := (P.xor_zero_iff _ _).1 c
    omega
  by_cases h36 : j < 36
  · have hs : sumN num' = sumN num := by
      apply dig4 (sumN_lt _) (sumN_lt _)
      intro k hk
      rw [← encL_sum num' k hk, ← encL_sum num k hk, hg _ (by omega), if_neg (by omega)]
    unfold sumN at hs
    rw [← encL_take num', ← encL_take num] at hs
    have hz : (encL num').take 36 = List.zipWith (· ^^^ ·) ((encL num).take 36) (List.replicate j 0 ++ [d] ++ List.replicate (36 - j - 1) 0) := by
      have hl : (List.replicate j 0 ++ [d] ++ List.replicate (36 - j - 1) 0).length = 36 := by simp; omega
      apply list_ext (by rw [List.length_zipWith, hl]; simp [encL_len])
      intro i hi
      have hi' : i < 36 := by simp at hi; omega
      have e1 : ((encL num).take 36).length = 36 := by simp [encL_len]
      have e2 : (List.zipWith (· ^^^ ·) ((encL num).take 36) (List.replicate j 0 ++ [d] ++ List.replicate (36 - j - 1) 0)).getD i 0 = ((encL num).take 36).getD i 0 ^^^ (List.replicate j 0 ++ [d] ++ List.replicate (36 - j - 1) 0).getD i 0 := by
        have a1 : i < ((encL num).take 36).length := by omega
        have a2 : i < (List.replicate j 0 ++ [d] ++ List.replicate (36 - j - 1) 0).length := by omega
        simp only [List.getD, List.getElem?_zipWith, List.getElem?_eq_getElem a1, List.getElem?_eq_getElem a2, Option.getD_some]
      rw [e2, take_get _ _ _ hi', take_get _ _ _ hi', hg _ (by omega)]
      rw [getD_app2, getD_app2, getD_rep, getD_rep]
      simp only [List.length_append, List.length_replicate, List.length_singleton]
      by_cases e : j = i
      · subst e
        rw [if_pos rfl, if_pos (by omega), if_neg (by omega), Nat.sub_self]
        rfl
      · rw [if_neg e]
        by_cases h5 : i < j
        · rw [if_pos (by omega), if_pos h5, Nat.xor_zero]
        · rw [if_neg (by omega), Nat.xor_zero]
    rw [hz, P.sum_diff _ _ (by simp [encL_len]; omega), P.xor_zero_iff] at hs
    have := P.burst j (36 - j - 1) [d] (by simp; omega) (by simp) hs d (by simp)
    omega
  · have hb : (bodyL num').take 36 = (bodyL num).take 36 := by
      rw [← encL_take num', ← encL_take num]
      apply list_ext (by simp [encL_len])
      intro i hi
      have hi' : i < 36 := by simp at hi; omega
      rw [take_get _ _ _ hi', take_get _ _ _ hi', hg _ (by omega), if_neg (by omega)]
    have hs : sumN num' = sumN num := by unfold sumN; rw [hb]
    apply hne
    rw [← show (encL num').getD j 0 = (encL num).getD j 0 ^^^ d by rw [hg _ hj, if_pos rfl]]
    by_cases h40 : j < 40
    · have e := encL_sum num' (j - 36) (by omega)
      have e' := encL_sum num (j - 36) (by omega)
      rw [show 36 + (j - 36) = j by omega] at e e'
      rw [e, e', hs]
    · rw [encL_high _ _ (by omega), encL_high _ _ (by omega)]
/-- A plan's numbers, as they are laid. -/
def fieldI (p : Pl) : Nat → Int
  | 0 => p.bl
  | 1 => p.ino
  | 2 => p.im
  | 3 => p.bm
  | 4 => p.tb
  | 5 => p.da
  | _ => p.dc
def nums (p : Pl) (j : Nat) : Nat := (fieldI p j % 18446744073709551616).toNat
theorem get_enc (num : Nat → Nat) (q : Nat) (hq : q < 7) (h : num q < 4294967296) : getV (encL num) (8 + 4 * q) 4 false = num q := by
  have e : ∀ k, k < 4 → (encL num).getD (8 + 4 * q + k) 0 = num q / 256 ^ k % 256 := fun k hk => by
    rw [encL_low _ _ (by omega)]
    unfold bodyB
    rw [if_neg (by omega), if_pos (by omega), show (8 + 4 * q + k - 8) / 4 = q by omega, show (8 + 4 * q + k - 8) % 4 = k by omega]
  unfold getV plc
  simp only [sm, Bool.false_eq_true, if_false]
  rw [e 0 (by omega), e 1 (by omega), e 2 (by omega), e 3 (by omega)]
  simp only [show (256 : Nat) ^ 0 = 1 from rfl, show (256 : Nat) ^ 1 = 256 from rfl, show (256 : Nat) ^ 2 = 65536 from rfl, show (256 : Nat) ^ 3 = 16777216 from rfl]
  omega
/-- What Decode reads. -/
def gv (l : List Nat) (p : Nat) : Nat := if p + 4 ≤ l.length then getV l p 4 false else 0
abbrev decG (l : List Nat) : Prop := mkE (gv l 8) (gv l 12) = 0 ∧ encL (nums (mkP (gv l 8) (gv l 12))) = l
def decE (l : List Nat) : Int := if decG l then 0 else 10
def decP (l : List Nat) : Pl := if decG l then mkP (gv l 8) (gv l 12) else z7
theorem dec_enc (n i : Int) (h : mkE n i = 0) : decG (encL (nums (mkP n i))) ∧ mkP (gv (encL (nums (mkP n i))) 8) (gv (encL (nums (mkP n i))) 12) = mkP n i := by
  obtain ⟨T, m, hp, h1, h2, h3, h4, _⟩ := mk_ok n i h
  have n0 : nums (mkP n i) 0 = n.toNat := by rw [hp]; show (n % 18446744073709551616).toNat = _; omega
  have n1 : nums (mkP n i) 1 = i.toNat := by rw [hp]; show (i % 18446744073709551616).toNat = _; omega
  have g0 : gv (encL (nums (mkP n i))) 8 = n.toNat := by
    unfold gv; rw [if_pos (by rw [encL_len]; omega), ← n0]; exact get_enc _ 0 (by omega) (by omega)
  have g1 : gv (encL (nums (mkP n i))) 12 = i.toNat := by
    unfold gv; rw [if_pos (by rw [encL_len]; omega), ← n1]; exact get_enc _ 1 (by omega) (by omega)
  have c0 : ((n.toNat : Nat) : Int) = n := by omega
  have c1 : ((i.toNat : Nat) : Int) = i := by omega
  unfold decG
  rw [g0, g1, c0, c1]
  exact ⟨⟨h, rfl⟩, rfl⟩
theorem dec_len (l : List Nat) (h : decG l) : l.length = 512 := by rw [← h.2, encL_len]
theorem dec_flip (num : Nat → Nat) (j d : Nat) (hj : j < 512) (hd : 0 < d) (hd2 : d < 256) : ¬ decG ((encL num).set j ((encL num).getD j 0 ^^^ d)) := fun h => enc_flip num _ j d hj hd hd2 h.2
end Go.Proofs.YtbiniohacnaieaaDoor
