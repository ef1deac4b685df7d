/- Decode on plain lists: what the reader comes to, what the document's own comes to, that they are the same; what is written is read; what is cut off is none. -/
import Derived.Test.YtaooidckmepdeaaDoorRt
import Derived.Test.YtaooidckmepdeaaDoorEn
namespace Go.Proofs.YtaooidckmepdeaaDoor
set_option linter.unusedSimpArgs false
set_option linter.unusedVariables false
open Go.RowKit
def rz : Rc := ⟨false, ⟨#[]⟩, false, ⟨#[]⟩, 0, 0⟩
/-- May it be looked at? -/
def gate (l : List Nat) (first : Int) : Bool := timeB first && decide (0 < l.length) && decide (l.getD 0 0 ≤ 3)
def hkOf (l : List Nat) : Bool := l.getD 0 0 % 2 == 1
def hvOf (l : List Nat) : Bool := l.getD 0 0 / 2 == 1
/-- What is left behind the first byte, Off, the time, the key, the value. -/
def p0 (l : List Nat) : List Nat := l.drop 1
def p1 (l : List Nat) : List Nat := (p0 l).drop (numN (p0 l))
def p2 (l : List Nat) : List Nat := (p1 l).drop (numN (p1 l))
def p3 (l : List Nat) : List Nat := txL (hkOf l) (p2 l)
def p4 (l : List Nat) : List Nat := txL (hvOf l) (p3 l)
def b2 (l : List Nat) : Bool := numN (p0 l) == 0 || numN (p1 l) == 0
def badAt (l : List Nat) : Bool := txB (hvOf l) (p3 l) (txB (hkOf l) (p2 l) (b2 l))
def rcOf (l : List Nat) (first : Int) : Rc := ⟨hkOf l, strN (txV (hkOf l) (p2 l)), hvOf l, strN (txV (hvOf l) (p3 l)), wrap64 (first + zag (numV (p1 l))), wrap64 (numV (p0 l))⟩
def okD (l : List Nat) (first : Int) : Bool := gate l first && !(badAt l) && (chk (rcOf l first) == 0)
def decR (l : List Nat) (first : Int) : Rc := if okD l first = true then rcOf l first else rz
def decN (l : List Nat) (first : Int) : Nat := if okD l first = true then l.length - (p4 l).length else 0
def decE (l : List Nat) (first : Int) : Int := if okD l first = true then 0 else 10
theorem uv_ext (l t : List Nat) : ∀ (i v : Nat), (uv l i v).2 ≠ 0 → uv (l ++ t) i v = uv l i v := by
  induction l with
  | nil => intro i v h; exact absurd rfl h
  | cons c r ih =>
    intro i v h
    rw [List.cons_append, uv_cons, uv_cons] at *
    split
    · rfl
    · rename_i h9
      rw [if_neg h9] at h
      split
      · rename_i h128
        rw [if_pos h128] at h
        exact ih _ _ h
      · rfl
theorem num_ext {l : List Nat} (t : List Nat) (h : numN l ≠ 0) : numV (l ++ t) = numV l ∧ numN (l ++ t) = numN l := by
  unfold numV numN
  rw [uv_ext l t 0 0 h]
  exact ⟨rfl, rfl⟩
theorem drop_ext {l : List Nat} (t : List Nat) {n : Nat} (h : n ≤ l.length) : (l ++ t).drop n = l.drop n ++ t := List.drop_append_of_le_length h
theorem tx_ext {there : Bool} {l : List Nat} (t : List Nat) {bad : Bool} (h : txB there l bad = false) : txV there (l ++ t) = txV there l ∧ txL there (l ++ t) = txL there l ++ t ∧ txB there (l ++ t) bad = false ∧ bad = false := by
  cases there
  · simp only [txV, txL, txB, Bool.false_eq_true, if_false] at *
    exact ⟨trivial, trivial, h, h⟩
  · simp only [txB, if_true, Bool.or_eq_false_iff] at h
    obtain ⟨⟨h1, h2⟩, h3⟩ := h
    have hn : numN l ≠ 0 := by simpa using h2
    obtain ⟨e1, e2⟩ := num_ext t hn
    have hle := numN_le l
    have hO : ¬ (l.drop (numN l)).length < numV l := of_decide_eq_false h3
    have hO2 : txO (l ++ t) = false := by
      unfold txO
      rw [e1, e2, drop_ext t hle]
      apply decide_eq_false
      simp only [List.length_append]
      omega
    simp only [txV, txL, txB, if_true, h3, hO2, e1, e2, drop_ext t hle, h1, Bool.false_or, Bool.or_false]
    refine ⟨?_, ?_, by simpa using h2, trivial⟩
    · exact List.take_append_of_le_length (by omega)
    · exact drop_ext t (by omega)
theorem txL_len (there : Bool) (l : List Nat) : (txL there l).length ≤ l.length := by
  unfold txL
  split
  · split <;> simp <;> omega
  · exact Nat.le_refl _
theorem p4_len (l : List Nat) : (p4 l).length ≤ l.length - 1 := by
  unfold p4
  refine Nat.le_trans (txL_len _ _) ?_
  unfold p3
  refine Nat.le_trans (txL_len _ _) ?_
  simp only [p2, p1, p0, List.length_drop]
  omega
theorem dec_ext {l : List Nat} (t : List Nat) {first : Int} (h : okD l first = true) : okD (l ++ t) first = true ∧ rcOf (l ++ t) first = rcOf l first ∧ p4 (l ++ t) = p4 l ++ t := by
  unfold okD at h ⊢
  simp only [Bool.and_eq_true, Bool.not_eq_true', gate, decide_eq_true_eq] at h ⊢
  obtain ⟨⟨⟨⟨h1, h2⟩, h3⟩, h4⟩, h5⟩ := h
  have g0 : (l ++ t).getD 0 0 = l.getD 0 0 := by
    cases l with
    | nil => simp at h2
    | cons c r => rfl
  have ek : hkOf (l ++ t) = hkOf l := by unfold hkOf; rw [g0]
  have ev : hvOf (l ++ t) = hvOf l := by unfold hvOf; rw [g0]
  have e0 : p0 (l ++ t) = p0 l ++ t := drop_ext t (by omega)
  unfold badAt at h4 ⊢
  obtain ⟨_, _, _, k3⟩ := tx_ext t h4
  obtain ⟨_, _, _, k2⟩ := tx_ext t k3
  simp only [b2, Bool.or_eq_false_iff] at k2
  have n0 : numN (p0 l) ≠ 0 := by simpa using k2.1
  have n1 : numN (p1 l) ≠ 0 := by simpa using k2.2
  obtain ⟨a1, a2⟩ := num_ext t n0
  have e1 : p1 (l ++ t) = p1 l ++ t := by
    unfold p1
    rw [e0, a2, drop_ext t (numN_le _)]
  obtain ⟨a3, a4⟩ := num_ext t n1
  have e2 : p2 (l ++ t) = p2 l ++ t := by
    unfold p2
    rw [e1, a4, drop_ext t (numN_le _)]
  have eb : b2 (l ++ t) = b2 l := by
    unfold b2
    rw [e0, e1, a2, a4]
  obtain ⟨v3, l3, c3, _⟩ := tx_ext t k3
  have e3 : p3 (l ++ t) = p3 l ++ t := by
    unfold p3
    rw [e2, ek, l3]
  obtain ⟨v4, l4, c4, _⟩ := tx_ext t h4
  have e4 : p4 (l ++ t) = p4 l ++ t := by
    unfold p4
    rw [e3, ev, l4]
  have er : rcOf (l ++ t) first = rcOf l first := by
    unfold rcOf
    rw [ek, ev, e0, e1, e2, e3, v3, v4, a1, a3]
  refine ⟨⟨⟨⟨⟨h1, by simp; omega⟩, by rw [g0]; exact h3⟩, ?_⟩, by rw [er]; exact h5⟩, er, e4⟩
  rw [ek, ev, e2, e3, eb]
  rw [k3] at c4
  rw [c3]
  exact c4
end Go.Proofs.YtaooidckmepdeaaDoor
