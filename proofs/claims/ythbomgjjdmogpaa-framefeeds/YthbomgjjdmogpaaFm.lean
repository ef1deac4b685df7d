/- Frames on plain lists: what is told of bytes, and what waits. -/
import Derived.Test.YthbomgjjdmogpaaRg
namespace Go.Proofs.Ythbomgjjdmogpaa
set_option linter.unusedSimpArgs false
set_option linter.unusedVariables false
open Go.RowKit
/-- A length: four bytes, the greatest first. -/
def be (l : List Nat) : Nat := hv l 0 4
theorem be_eq (l : List Nat) : be l = ((l.getD 0 0 * 256 + l.getD 1 0) * 256 + l.getD 2 0) * 256 + l.getD 3 0 := by simp [be, hv]
theorem getD_app (a b : List Nat) (i : Nat) (h : i < a.length) : (a ++ b).getD i 0 = a.getD i 0 := by simp [List.getD, List.getElem?_append, h]
theorem be_app (a b : List Nat) (h : 4 ≤ a.length) : be (a ++ b) = be a := by
  rw [be_eq, be_eq, getD_app _ _ _ (by omega), getD_app _ _ _ (by omega), getD_app _ _ _ (by omega), getD_app _ _ _ (by omega)]
theorem be_take (a : List Nat) : be (a.take 4) = be a := by
  have : ∀ i, i < 4 → (a.take 4).getD i 0 = a.getD i 0 := fun i hi => by simp [List.getD, List.getElem?_take, hi]
  rw [be_eq, be_eq, this 0 (by omega), this 1 (by omega), this 2 (by omega), this 3 (by omega)]
/-- Frames told, whether all lengths may be, what waits. -/
def fr : Nat → List Nat → List (List Nat) × Bool × List Nat
  | 0, l => ([], true, l)
  | f + 1, l => if l.length < 4 then ([], true, l) else if 8192 < be l then ([], false, []) else if l.length < 4 + be l then ([], true, l) else ((l.drop 4).take (be l) :: (fr f (l.drop (4 + be l))).1, (fr f (l.drop (4 + be l))).2)
theorem fr_fuel : ∀ (f g : Nat) (l : List Nat), l.length < f → l.length < g → fr f l = fr g l
  | 0, _, l, h, _ => by omega
  | _, 0, l, _, h => by omega
  | f + 1, g + 1, l, h1, h2 => by
    simp only [fr]
    by_cases h : l.length < 4
    · rw [if_pos h, if_pos h]
    · rw [if_neg h, if_neg h]
      have : (l.drop (4 + be l)).length < f := by rw [List.length_drop]; omega
      have h4 : (l.drop (4 + be l)).length < g := by rw [List.length_drop]; omega
      rw [fr_fuel f g _ this h4]
def frames (l : List Nat) : List (List Nat) × Bool × List Nat := fr (l.length + 1) l
theorem frames_short {l : List Nat} (h : l.length < 4) : frames l = ([], true, l) := by unfold frames; rw [fr, if_pos h]
theorem frames_bad {l : List Nat} (h : 4 ≤ l.length) (hb : 8192 < be l) : frames l = ([], false, []) := by unfold frames; rw [fr, if_neg (by omega), if_pos hb]
theorem frames_part {l : List Nat} (hb : be l ≤ 8192) (h : l.length < 4 + be l) : frames l = ([], true, l) := by
  unfold frames
  rw [fr]
  by_cases h4 : l.length < 4
  · rw [if_pos h4]
  · rw [if_neg h4, if_neg (by omega), if_pos h]
theorem frames_one {l : List Nat} (hb : be l ≤ 8192) (h : 4 + be l ≤ l.length) : frames l = ((l.drop 4).take (be l) :: (frames (l.drop (4 + be l))).1, (frames (l.drop (4 + be l))).2) := by
  have e : fr l.length (l.drop (4 + be l)) = frames (l.drop (4 + be l)) := fr_fuel _ _ _ (by rw [List.length_drop]; omega) (by omega)
  rw [← e]
  show fr (l.length + 1) l = _
  rw [fr, if_neg (by omega), if_neg (by omega), if_neg (by omega)]
/-- What waits tells nothing by itself. -/
def Rest (q : List Nat) : Prop := frames q = ([], true, q)
theorem Rest.nil : Rest [] := frames_short (by simp)
theorem rest_iff (q : List Nat) : Rest q ↔ q.length < 4 ∨ (be q ≤ 8192 ∧ q.length < 4 + be q) := by
  constructor
  · intro h
    by_cases h4 : q.length < 4
    · exact .inl h4
    · refine .inr ?_
      by_cases hb : 8192 < be q
      · have := frames_bad (by omega) hb
        rw [h] at this
        simp at this
      · refine ⟨by omega, ?_⟩
        by_cases hl : q.length < 4 + be q
        · exact hl
        · have := frames_one (l := q) (by omega) (by omega)
          rw [h] at this
          simp at this
  · rintro (h | ⟨h1, h2⟩)
    · exact frames_short h
    · exact frames_part h1 h2
theorem frames_app : ∀ (n : Nat) (a b : List Nat), a.length ≤ n → frames (a ++ b) = if (frames a).2.1 then ((frames a).1 ++ (frames ((frames a).2.2 ++ b)).1, (frames ((frames a).2.2 ++ b)).2) else ((frames a).1, false, []) := by
  intro n
  induction n with
  | zero =>
    intro a b h
    obtain rfl : a = [] := List.length_eq_zero_iff.1 (by omega)
    rw [frames_short (l := []) (by simp)]
    simp
  | succ n ih =>
    intro a b h
    by_cases h4 : a.length < 4
    · rw [frames_short h4]; simp
    have hb : be (a ++ b) = be a := be_app a b (by omega)
    by_cases h5 : 8192 < be a
    · rw [frames_bad (l := a) (by omega) h5, frames_bad (l := a ++ b) (by simp; omega) (by rw [hb]; exact h5)]; simp
    by_cases h6 : a.length < 4 + be a
    · rw [frames_part (l := a) (by omega) h6]; simp
    rw [frames_one (l := a) (by omega) (by omega), frames_one (l := a ++ b) (by rw [hb]; omega) (by rw [hb, List.length_append]; omega), hb]
    have e1 : (a ++ b).drop (4 + be a) = a.drop (4 + be a) ++ b := List.drop_append_of_le_length (by omega)
    have e2 : ((a ++ b).drop 4).take (be a) = (a.drop 4).take (be a) := by
      rw [List.drop_append_of_le_length (by omega), List.take_append_of_le_length (by rw [List.length_drop]; omega)]
    rw [e1, e2, ih (a.drop (4 + be a)) b (by rw [List.length_drop]; omega)]
    generalize frames (a.drop (4 + be a)) = r
    obtain ⟨r1, r2, r3⟩ := r
    cases r2 <;> simp
theorem frames_yes {a : List Nat} (b : List Nat) (h : (frames a).2.1 = true) : frames (a ++ b) = ((frames a).1 ++ (frames ((frames a).2.2 ++ b)).1, (frames ((frames a).2.2 ++ b)).2) := by
  rw [frames_app a.length a b (Nat.le_refl _), if_pos h]
theorem frames_no {a : List Nat} (b : List Nat) (h : (frames a).2.1 = false) : frames (a ++ b) = ((frames a).1, false, []) := by
  rw [frames_app a.length a b (Nat.le_refl _), if_neg (by rw [h]; simp)]
theorem frames_rest (l : List Nat) : Rest (frames l).2.2 := by
  suffices ∀ n (l : List Nat), l.length ≤ n → Rest (frames l).2.2 from this l.length l (Nat.le_refl _)
  intro n
  induction n with
  | zero =>
    intro l h
    obtain rfl : l = [] := List.length_eq_zero_iff.1 (by omega)
    exact Rest.nil
  | succ n ih =>
    intro a h
    by_cases h4 : a.length < 4
    · rw [frames_short h4]; exact frames_short h4
    by_cases h5 : 8192 < be a
    · rw [frames_bad (l := a) (by omega) h5]; exact Rest.nil
    by_cases h6 : a.length < 4 + be a
    · rw [frames_part (l := a) (by omega) h6]; exact frames_part (l := a) (by omega) h6
    rw [frames_one (l := a) (by omega) (by omega)]
    exact ih _ (by rw [List.length_drop]; omega)
theorem frames_shut (l : List Nat) (h : (frames l).2.1 = false) : (frames l).2.2 = [] := by
  suffices ∀ n (l : List Nat), l.length ≤ n → (frames l).2.1 = false → (frames l).2.2 = [] from this l.length l (Nat.le_refl _) h
  intro n
  induction n with
  | zero =>
    intro l h
    obtain rfl : l = [] := List.length_eq_zero_iff.1 (by omega)
    intro _; rfl
  | succ n ih =>
    intro a h
    by_cases h4 : a.length < 4
    · rw [frames_short h4]; simp
    by_cases h5 : 8192 < be a
    · rw [frames_bad (l := a) (by omega) h5]; simp
    by_cases h6 : a.length < 4 + be a
    · rw [frames_part (l := a) (by omega) h6]; simp
    rw [frames_one (l := a) (by omega) (by omega)]
    exact ih _ (by rw [List.length_drop]; omega)
/-- What is fed to a Feeder that has q (and whether it is shut): told, all well, what waits. -/
def feedS (sh : Bool) (q b : List Nat) : List (List Nat) × Bool × List Nat := if sh then ([], false, []) else frames (q ++ b)
theorem frames_count (l : List Nat) : (frames l).1.length * 4 ≤ l.length := by
  suffices ∀ n (l : List Nat), l.length ≤ n → (frames l).1.length * 4 ≤ l.length from this l.length l (Nat.le_refl _)
  intro n
  induction n with
  | zero =>
    intro l h
    obtain rfl : l = [] := List.length_eq_zero_iff.1 (by omega)
    rw [frames_short (l := []) (by simp)]; simp
  | succ n ih =>
    intro a h
    by_cases h4 : a.length < 4
    · rw [frames_short h4]; simp
    by_cases h5 : 8192 < be a
    · rw [frames_bad (l := a) (by omega) h5]; simp
    by_cases h6 : a.length < 4 + be a
    · rw [frames_part (l := a) (by omega) h6]; simp
    rw [frames_one (l := a) (by omega) (by omega)]
    have := ih (a.drop (4 + be a)) (by rw [List.length_drop]; omega)
    rw [List.length_drop] at this
    simp only [List.length_cons]
    omega
theorem rest_len {q : List Nat} (h : Rest q) : q.length ≤ 8195 := by
  rcases (rest_iff q).1 h with h | ⟨h1, h2⟩ <;> omega
theorem hv_front (h : List Nat) (n : Nat) : hv h 0 (n + 1) = hv h 0 n * 256 + h.getD n 0 := by simp [hv]
end Go.Proofs.Ythbomgjjdmogpaa
