/- What is cut off is no batch; a changed byte behind the Sum is seen. -/
import Derived.Test.YtgpeldmplkijlaaDoorDc
namespace Go.Proofs.YtgpeldmplkijlaaDoor
set_option linter.unusedSimpArgs false
set_option linter.unusedVariables false
open Go.RowKit
theorem run_slice_to (w : World) (ad : Addr) (len cap n : Nat) (h : n ≤ cap) (h0 : n ≤ len) : (Instr.slice 27 (.slice (some ad) len cap) none (some (.int .i64 (n : Int))) none).run Tryd.prog w = .ok (.slice (some ad) n cap) w := by
  have hs : (sizeOf 5).run Tryd.prog w = .ok 1 w := by
    obtain ⟨i, hi, e⟩ := Option.map_eq_some_iff.1 Tryd.info5s
    simp [sizeOf, typeInfo, hi, e]
  have h3 : (0 : Int) ≤ (n : Int) ∧ (n : Int) ≤ (cap : Int) := by omega
  simp [Instr.slice, run_underlying Tryd.underlying27, Instr.sliceBounds, Instr.sliceBound, asIntOf, h3, hs]
  first | omega | (rw [if_pos h]; simp [Addr.add]) | simp [h, Addr.add]
theorem getV_set (l : List Nat) (i c p n : Nat) (h : i < p ∨ p + n ≤ i) : getV (l.set i c) p n true = getV l p n true := by
  unfold getV
  apply sm_congr
  intro j hj
  simp only [plc, if_true, List.getD]
  rw [List.getElem?_set_ne (by omega)]
theorem enc_len_of {b : Ba} (h : chkB b = 0) (hi : In64B b) : getV (encBL b) 8 4 true = (tailL b).length + 4 ∧ getV (encBL b) 12 4 true = P.sum (tailL b) := by
  have := nums_of (b := b) [] (chk_parts h).1 hi
  rw [List.append_nil] at this
  exact ⟨this.len, this.sum⟩
theorem len_enc (b : Ba) : (encBL b).length = 12 + ((tailL b).length + 4) := by
  have h1 := encB_len b
  have h2 := tail_len b
  omega
theorem okB_cut {b : Ba} {k : Nat} (h : chkB b = 0) (hi : In64B b) (hk : k < (encBL b).length) : ¬ OkB ((encBL b).take k) := by
  intro hq
  have h48 := hq.l48
  have hnl := hq.nl
  rw [List.length_take] at h48 hnl
  have e1 := (enc_len_of h hi).1
  have e2 := getV_take (encBL b) 8 4 k (by omega)
  have e3 := len_enc b
  have e4 : lenN ((encBL b).take k) = (encBL b).length := by
    unfold lenN
    rw [e2, e1, e3]
  rw [e4] at hnl
  omega
theorem zip_flip (l : List Nat) (j d : Nat) (hj : j < l.length) : List.zipWith (· ^^^ ·) l (List.replicate j 0 ++ [d] ++ List.replicate (l.length - j - 1) 0) = l.set j (l.getD j 0 ^^^ d) := by
  apply List.ext_getElem
  · simp; omega
  · intro i h1 h2
    have h3 : i < l.length := by rw [List.length_set] at h2; exact h2
    simp only [List.getElem_zipWith, List.getElem_set]
    by_cases hi : j = i
    · subst hi
      rw [if_pos rfl]
      have : (List.replicate j 0 ++ [d] ++ List.replicate (l.length - j - 1) 0)[j]? = some d := by
        rw [List.append_assoc, List.getElem?_append_right (by simp)]
        simp
      have e := (List.getElem?_eq_some_iff.1 this).2
      rw [e]
      simp [List.getD, hj]
    · rw [if_neg hi]
      have : (List.replicate j 0 ++ [d] ++ List.replicate (l.length - j - 1) 0)[i]? = some 0 := by
        rcases Nat.lt_or_ge i j with hlt | hge
        · rw [List.append_assoc, List.getElem?_append_left (by simp; exact hlt)]
          simp [hlt]
        · have hle : (List.replicate j 0 ++ [d]).length = j + 1 := by simp
          rw [List.getElem?_append_right (by rw [hle]; omega), hle, List.getElem?_replicate, if_pos (by omega)]
      have e := (List.getElem?_eq_some_iff.1 this).2
      rw [e]
      simp
theorem sum_flip (l : List Nat) (j d : Nat) (hj : j < l.length) (hd : 0 < d) (hd2 : d < 256) : P.sum (l.set j (l.getD j 0 ^^^ d)) ≠ P.sum l := by
  intro c
  rw [← zip_flip l j d hj, P.sum_diff _ _ (by simp; omega)] at c
  have h0 := (P.xor_zero_iff _ _).1 c
  have := P.burst j (l.length - j - 1) [d] (by intro x hx; simp at hx; omega) (by simp) h0 d (by simp)
  omega
theorem okB_flip {b : Ba} {i d : Nat} (h : chkB b = 0) (hi : In64B b) (h16 : 16 ≤ i) (hl : i < (encBL b).length) (hd : 0 < d) (hd2 : d < 256) : ¬ OkB ((encBL b).set i ((encBL b).getD i 0 ^^^ d)) := by
  intro hq
  have hs := hq.sum
  have e1 := (enc_len_of h hi).1
  have e0 := (enc_len_of h hi).2
  have e2 := getV_set (encBL b) i ((encBL b).getD i 0 ^^^ d) 8 4 (by omega)
  have e3 := len_enc b
  have e4 : lenN ((encBL b).set i ((encBL b).getD i 0 ^^^ d)) = (encBL b).length := by
    unfold lenN
    rw [e2, e1, e3]
  have ht : (encBL b).drop 16 = tailL b := by
    unfold encBL
    exact List.drop_left' (head_len _ _ _)
  rw [e4, getV_set _ _ _ 12 4 (by omega), e0, List.take_of_length_le (by rw [List.length_set]; omega), List.drop_set] at hs
  rw [if_neg (by omega), ht] at hs
  have hg : (encBL b).getD i 0 = (tailL b).getD (i - 16) 0 := by
    rw [← ht]
    simp only [List.getD, List.getElem?_drop]
    rw [show 16 + (i - 16) = i by omega]
  rw [hg] at hs
  exact sum_flip (tailL b) (i - 16) d (by omega) hd hd2 hs
end Go.Proofs.YtgpeldmplkijlaaDoor
