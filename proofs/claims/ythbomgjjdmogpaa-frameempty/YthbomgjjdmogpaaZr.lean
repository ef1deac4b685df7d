/- Noughts: their frames, rows of them that are made. -/
import Derived.Test.YthbomgjjdmogpaaAc
namespace Go.Proofs.Ythbomgjjdmogpaa
set_option linter.unusedSimpArgs false
set_option linter.unusedVariables false
open Go.RowKit
theorem rep_get (n i : Nat) : (List.replicate n 0).getD i 0 = 0 := by
  by_cases h : i < n
  · simp [List.getD, h]
  · rw [getD_out _ _ (by simp; omega)]
theorem rep_lt (n : Nat) : ∀ i, (List.replicate n 0).getD i 0 < 256 := fun i => by rw [rep_get]; omega
theorem be_zeros (n : Nat) : be (List.replicate n 0) = 0 := by rw [be_eq, rep_get, rep_get, rep_get, rep_get]
theorem frames_zeros (n : Nat) : frames (List.replicate n 0) = (List.replicate (n / 4) [], true, List.replicate (n % 4) 0) := by
  induction n using Nat.strongRecOn with
  | ind n ih =>
    by_cases h : n < 4
    · rw [frames_short (by simpa using h), Nat.div_eq_of_lt h, Nat.mod_eq_of_lt h]; rfl
    · rw [frames_one (by rw [be_zeros]; omega) (by rw [be_zeros]; simp; omega), be_zeros, Nat.add_zero, List.drop_replicate, ih (n - 4) (by omega)]
      have e1 : n / 4 = (n - 4) / 4 + 1 := by omega
      have e2 : n % 4 = (n - 4) % 4 := by omega
      rw [e1, ← e2, List.replicate_succ]
      simp
theorem cv_rep (n : Nat) : cv (List.replicate n 0) = List.replicate n (.int .u8 0) := by simp [cv]
theorem made_rep (n : Nat) : (madeCells (Value.int .u8 0).cells (n * 1)).toList = cv (List.replicate n 0) := by
  rw [cv_rep]
  apply List.ext_getElem
  · simp [madeCells]
  · intro i h1 h2
    simp [madeCells, Value.cells, Nat.mod_one]
/-- A row of noughts that is made. -/
theorem made_ine {w w1 : World} {n : Nat} {E : List Nat} (h : w1.ownsRow w.heap.size 5 1 (.slice (some ⟨w.heap.size, 0, none⟩) n n) n (madeCells (Value.int .u8 0).cells (n * 1)).toList) (hE : ∀ x ∈ E, x < w.heap.size) : InE w1 E (some ⟨w.heap.size, 0, none⟩) n (List.replicate n 0) := by
  rw [made_rep] at h
  have h2 : Own w.heap.size w1 w.heap.size n (List.replicate n 0) := by unfold Own; rw [List.length_replicate]; exact h
  refine ⟨h2.row (rep_lt n), by simp, by have := h2.le; simpa using this.2, (fun e => by cases e), fun _ x hx hm => ?_⟩
  injection hx with hx
  subst hx
  have := hE _ hm
  simp only at this
  omega
/-- A frame's bytes. -/
def wrp (f : List Nat) : List Nat := le4 f.length ++ f
theorem wrp_len (f : List Nat) : (wrp f).length = 4 + f.length := by simp [wrp, le4]; omega
theorem be_wrp (f t : List Nat) (h : f.length ≤ 8192) : be (wrp f ++ t) = f.length := by
  unfold wrp
  rw [List.append_assoc, be_le4 _ (by omega)]
theorem le4_len (n : Nat) : (le4 n).length = 4 := rfl
theorem frames_wrp (f t : List Nat) (h : f.length ≤ 8192) : frames (wrp f ++ t) = (f :: (frames t).1, (frames t).2) := by
  have hb := be_wrp f t h
  have hl := wrp_len f
  rw [frames_one (by rw [hb]; exact h) (by rw [hb, List.length_append]; omega), hb]
  have e1 : (wrp f ++ t).drop (4 + f.length) = t := by rw [← hl]; exact List.drop_left
  have e2 : ((wrp f ++ t).drop 4).take f.length = f := by
    unfold wrp
    rw [List.append_assoc]
    have : (le4 f.length ++ (f ++ t)).drop 4 = f ++ t := by rw [← le4_len f.length]; exact List.drop_left
    rw [this]
    exact List.take_left
  rw [e1, e2]
theorem frames_wrp_all (f : List Nat) (h : f.length ≤ 8192) : frames (wrp f) = ([f], true, []) := by
  have := frames_wrp f [] h
  rw [List.append_nil, frames_nil] at this
  exact this
theorem frames_wrp_part (f : List Nat) (k : Nat) (h : f.length ≤ 8192) (hk : k < 4 + f.length) : frames ((wrp f).take k) = ([], true, (wrp f).take k) := by
  have hl : ((wrp f).take k).length = k := by rw [List.length_take, wrp_len]; omega
  by_cases h4 : k < 4
  · exact frames_short (by omega)
  · have hb : be ((wrp f).take k) = f.length := by
      have e : (wrp f).take k = le4 f.length ++ f.take (k - 4) := by
        unfold wrp
        rw [List.take_append, le4_len, List.take_of_length_le (by rw [le4_len]; omega)]
      rw [e, be_le4 _ (by omega)]
    exact frames_part (by omega) (by omega)
theorem wrp_lt {f : List Nat} (h : ∀ i, f.getD i 0 < 256) : ∀ i, (wrp f).getD i 0 < 256 := app_lt (le4_lt _) h
end Go.Proofs.Ythbomgjjdmogpaa
