/- What is known, kept as a list of keys and values: told by functions. -/
import Derived.Test.YtnnljdnaipjoiaaPm
namespace Go.Proofs.Ytnnljdnaipjoiaa
set_option linter.unusedSimpArgs false
set_option linter.unusedVariables false
/-- No key twice. -/
def Dist {κ ν : Type} (l : List (κ × ν)) : Prop := ∀ (i j : Nat) (y z : κ × ν), l[i]? = some y → l[j]? = some z → y.1 = z.1 → i = j
theorem dist_nil {κ ν : Type} : Dist ([] : List (κ × ν)) := fun i j y z h => by simp at h
theorem Dist.tail {κ ν : Type} {y : κ × ν} {l : List (κ × ν)} (h : Dist (y :: l)) : Dist l := fun i j a b ha hb e => by
  have := h (i + 1) (j + 1) a b (by simpa using ha) (by simpa using hb) e
  omega
/-- A value that turns at its place. -/
theorem Dist.set {κ ν : Type} {l : List (κ × ν)} (hd : Dist l) {i : Nat} {k : κ} {u : ν} (h : l[i]? = some (k, u)) (v : ν) : Dist (l.set i (k, v)) := by
  have key : ∀ (j : Nat) (y : κ × ν), (l.set i (k, v))[j]? = some y → ∃ z : κ × ν, l[j]? = some z ∧ z.1 = y.1 := fun j y hy => by
    rw [List.getElem?_set] at hy
    by_cases e : i = j
    · subst e
      rw [if_pos rfl] at hy
      split at hy
      · injection hy with hy
        subst hy
        exact ⟨_, h, rfl⟩
      · cases hy
    · rw [if_neg e] at hy
      exact ⟨y, hy, rfl⟩
  intro a b y z hy hz e
  obtain ⟨y', h1, e1⟩ := key a y hy
  obtain ⟨z', h2, e2⟩ := key b z hz
  exact hd a b y' z' h1 h2 (by rw [e1, e2, e])
section
variable {κ ν : Type} [DecidableEq κ]
def asF : List (κ × ν) → κ → Option ν
  | [], _ => none
  | y :: r, x => if y.1 = x then some y.2 else asF r x
theorem asF_app (a b : List (κ × ν)) (x : κ) : asF (a ++ b) x = (asF a x).or (asF b x) := by
  induction a with
  | nil => rfl
  | cons y r ih =>
    show (if y.1 = x then some y.2 else asF (r ++ b) x) = (if y.1 = x then some y.2 else asF r x).or (asF b x)
    by_cases h : y.1 = x <;> simp [h, ih]
theorem asF_one (k : κ) (v : ν) (x : κ) : asF [(k, v)] x = if k = x then some v else none := rfl
theorem asF_none {l : List (κ × ν)} {k : κ} (h : ∀ (i : Nat) (y : κ × ν), l[i]? = some y → y.1 ≠ k) : asF l k = none := by
  induction l with
  | nil => rfl
  | cons y r ih =>
    show (if y.1 = k then some y.2 else asF r k) = none
    rw [if_neg (h 0 y (by simp))]
    exact ih fun i z hz => h (i + 1) z (by simpa using hz)
theorem asF_get {l : List (κ × ν)} (hd : Dist l) {i : Nat} {y : κ × ν} (h : l[i]? = some y) : asF l y.1 = some y.2 := by
  induction l generalizing i with
  | nil => simp at h
  | cons z r ih =>
    show (if z.1 = y.1 then some z.2 else asF r y.1) = some y.2
    by_cases e : z.1 = y.1
    · have hi := hd 0 i z y (by simp) h e
      subst hi
      simp only [List.getElem?_cons_zero, Option.some.injEq] at h
      subst h
      rw [if_pos rfl]
    · rw [if_neg e]
      cases i with
      | zero => simp only [List.getElem?_cons_zero, Option.some.injEq] at h; exact absurd (by rw [h]) e
      | succ i => exact ih hd.tail (by simpa using h)
theorem asF_mem {l : List (κ × ν)} {k : κ} {v : ν} (h : asF l k = some v) : ∃ i : Nat, l[i]? = some (k, v) := by
  induction l with
  | nil => cases h
  | cons z r ih =>
    have h' : (if z.1 = k then some z.2 else asF r k) = some v := h
    by_cases e : z.1 = k
    · rw [if_pos e] at h'
      injection h' with h'
      exact ⟨0, by subst e; subst h'; simp⟩
    · rw [if_neg e] at h'
      obtain ⟨i, hi⟩ := ih h'
      exact ⟨i + 1, by simpa using hi⟩
theorem Dist.snoc {l : List (κ × ν)} (hd : Dist l) {k : κ} (v : ν) (hn : asF l k = none) : Dist (l ++ [(k, v)]) := by
  have hk : ∀ (i : Nat) (y : κ × ν), l[i]? = some y → y.1 ≠ k := fun i y hy e => by
    have := asF_get hd hy
    rw [e, hn] at this
    cases this
  intro i j y z hy hz e
  rw [List.getElem?_append] at hy hz
  split at hy <;> split at hz
  · exact hd i j y z hy hz e
  · have hz2 := (List.getElem?_eq_some_iff.1 hz)
    obtain ⟨h1, h2⟩ := hz2
    simp only [List.length_cons, List.length_nil] at h1
    have hzk : z.1 = k := by rw [← h2]; simp
    exact absurd (e.trans hzk) (hk i y hy)
  · obtain ⟨h1, h2⟩ := (List.getElem?_eq_some_iff.1 hy)
    simp only [List.length_cons, List.length_nil] at h1
    have hyk : y.1 = k := by rw [← h2]; simp
    exact absurd (e.symm.trans hyk) (hk j z hz)
  · obtain ⟨h1, _⟩ := (List.getElem?_eq_some_iff.1 hy)
    obtain ⟨h2, _⟩ := (List.getElem?_eq_some_iff.1 hz)
    simp only [List.length_cons, List.length_nil] at h1 h2
    omega
/-- The list tells what was known and what is new. -/
structure RepF (l : List (κ × ν)) (K f : κ → Option ν) : Prop where
  dist : Dist l
  all : ∀ x, asF l x = (K x).or (f x)
  off : ∀ x u, K x = some u → f x = none
theorem RepF.start {l : List (κ × ν)} {K : κ → Option ν} (hd : Dist l) (h : ∀ x, asF l x = K x) : RepF l K (fun _ => none) :=
  ⟨hd, fun x => by rw [h x]; cases K x <;> rfl, fun x u hu => rfl⟩
theorem RepF.met {l : List (κ × ν)} {K f : κ → Option ν} (h : RepF l K f) (e : ν → ν → Bool) {k : κ} {u : ν} (v : ν) (hu : asF l k = some u) : agr e K f k v = if e u v = true then some f else none := by
  unfold agr
  rw [← h.all k, hu]
theorem RepF.new {l : List (κ × ν)} {K f : κ → Option ν} (h : RepF l K f) (e : ν → ν → Bool) {k : κ} (v : ν) (hu : asF l k = none) :
    agr e K f k v = some (fun x => if x = k then some v else f x) ∧ RepF (l ++ [(k, v)]) K (fun x => if x = k then some v else f x) := by
  have hor := h.all k
  rw [hu] at hor
  have hK : K k = none := by
    cases hk : K k with
    | none => rfl
    | some u => rw [hk] at hor; cases hor
  refine ⟨?_, h.dist.snoc v hu, fun x => ?_, fun x u hx => ?_⟩
  · unfold agr
    rw [← hor]
  · rw [asF_app, asF_one, h.all x]
    by_cases e : x = k
    · subst e
      rw [hK, if_pos rfl, if_pos rfl]
      have := hor
      rw [hK] at this
      have hf : f x = none := by cases hfx : f x with
        | none => rfl
        | some u => rw [hfx] at this; cases this
      rw [hf]
      rfl
    · rw [if_neg e, if_neg (fun q => e q.symm)]
      cases (K x).or (f x) <;> rfl
  · have e : x ≠ k := fun q => by rw [q, hK] at hx; cases hx
    rw [if_neg e]
    exact h.off x u hx
/-- What is told behind it. -/
theorem RepF.done {l : List (κ × ν)} {K f : κ → Option ν} (h : RepF l K f) : ∀ x, asF l x = (f x).or (K x) := fun x => by
  rw [h.all x]
  cases hk : K x with
  | none => cases f x <;> rfl
  | some u => rw [h.off x u hk]; rfl
theorem asF_set {l : List (κ × ν)} (hd : Dist l) {i : Nat} {k : κ} {u : ν} (h : l[i]? = some (k, u)) (v : ν) (x : κ) : asF (l.set i (k, v)) x = if x = k then some v else asF l x := by
  have hi : i < l.length := (List.getElem?_eq_some_iff.1 h).1
  have hset : (l.set i (k, v))[i]? = some (k, v) := by rw [List.getElem?_set]; simp [hi]
  by_cases e : x = k
  · subst e
    rw [if_pos rfl]
    exact asF_get (hd.set h v) hset
  · rw [if_neg e]
    cases hx : asF l x with
    | none =>
      refine asF_none fun j y hy q => ?_
      by_cases ej : i = j
      · subst ej
        have hy2 := hset.symm.trans hy
        injection hy2 with hy2
        subst hy2
        exact e q.symm
      · rw [List.getElem?_set, if_neg ej] at hy
        have := asF_get hd hy
        rw [q, hx] at this
        cases this
    | some z =>
      obtain ⟨j, hj⟩ := asF_mem hx
      have ej : i ≠ j := fun q => by
        subst q
        rw [h] at hj
        injection hj with hj
        exact e (by injection hj with h1 h2; exact h1.symm)
      have hj2 : (l.set i (k, v))[j]? = some (x, z) := by rw [List.getElem?_set, if_neg ej]; exact hj
      exact asF_get (hd.set h v) hj2
end
end Go.Proofs.Ytnnljdnaipjoiaa
