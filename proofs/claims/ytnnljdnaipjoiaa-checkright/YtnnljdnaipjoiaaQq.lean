/- Batches thinned out: some gone, some with fewer records. -/
import Derived.Test.YtnnljdnaipjoiaaQn
namespace Go.Proofs.Ytnnljdnaipjoiaa
set_option linter.unusedSimpArgs false
set_option linter.unusedVariables false
open Go.RowKit
/-- The same batch with some of its records. -/
def ThB (x b : Ba) : Prop := x.base = b.base ∧ x.span = b.span ∧ x.prod = b.prod ∧ x.seq = b.seq ∧ List.Sublist x.rs b.rs
theorem ThB.refl (b : Ba) : ThB b b := ⟨rfl, rfl, rfl, rfl, List.Sublist.refl _⟩
def Thin : List Ba → List Ba → Prop
  | x, [] => x = []
  | x, b :: l => Thin x l ∨ ∃ h t, x = h :: t ∧ ThB h b ∧ Thin t l
theorem Thin.nil (l : List Ba) : Thin [] l := by
  induction l with
  | nil => rfl
  | cons b l ih => exact .inl ih
theorem Thin.refl (l : List Ba) : Thin l l := by
  induction l with
  | nil => rfl
  | cons b l ih => exact .inr ⟨b, l, rfl, ThB.refl b, ih⟩
theorem Thin.app {x l y m : List Ba} (h : Thin x l) (k : Thin y m) : Thin (x ++ y) (l ++ m) := by
  induction l generalizing x with
  | nil => obtain rfl : x = [] := h; exact k
  | cons b l ih =>
    rcases h with h | ⟨p, t, rfl, h1, h2⟩
    · exact .inl (ih h)
    · exact .inr ⟨p, t ++ y, rfl, h1, ih h2⟩
theorem Thin.skip {x l : List Ba} (h : Thin x l) (b : Ba) : Thin x (l ++ [b]) := by
  have := h.app (Thin.nil [b])
  rwa [List.append_nil] at this
theorem Thin.snoc {x l : List Ba} (h : Thin x l) {p b : Ba} (k : ThB p b) : Thin (x ++ [p]) (l ++ [b]) := h.app (.inr ⟨p, [], rfl, k, rfl⟩)
theorem Thin.mem {x l : List Ba} (h : Thin x l) : ∀ p ∈ x, ∃ b ∈ l, ThB p b := by
  induction l generalizing x with
  | nil => obtain rfl : x = [] := h; intro p hp; simp at hp
  | cons b l ih =>
    intro p hp
    rcases h with h | ⟨q, t, rfl, h1, h2⟩
    · obtain ⟨c, hc, k⟩ := ih h p hp
      exact ⟨c, List.mem_cons_of_mem _ hc, k⟩
    · rcases List.mem_cons.1 hp with rfl | hp
      · exact ⟨b, List.mem_cons_self .., h1⟩
      · obtain ⟨c, hc, k⟩ := ih h2 p hp
        exact ⟨c, List.mem_cons_of_mem _ hc, k⟩
/-- What is said of two batches by their places alone holds of those that are left. -/
theorem Thin.pair {R : Ba → Ba → Prop} (hR : ∀ a b c d, ThB a c → ThB b d → R c d → R a b) {x l : List Ba} (h : Thin x l) (k : l.Pairwise R) : x.Pairwise R := by
  induction l generalizing x with
  | nil => obtain rfl : x = [] := h; exact List.Pairwise.nil
  | cons b l ih =>
    rw [List.pairwise_cons] at k
    rcases h with h | ⟨q, t, rfl, h1, h2⟩
    · exact ih h k.2
    · rw [List.pairwise_cons]
      refine ⟨fun p hp => ?_, ih h2 k.2⟩
      obtain ⟨c, hc, k3⟩ := h2.mem p hp
      exact hR _ _ _ _ h1 k3 (k.1 c hc)
theorem Thin.of_sub {x l : List Ba} (h : List.Sublist x l) : Thin x l := by
  induction h with
  | slnil => rfl
  | cons a _ ih => exact .inl ih
  | cons_cons a _ ih => exact .inr ⟨a, _, rfl, ThB.refl a, ih⟩
theorem bsOf_app (a b : List Bs) : bsOf (a ++ b) = bsOf a ++ bsOf b := by simp [bsOf]
theorem bsOf_take (l : List Bs) (k : Nat) (h : k < l.length) : bsOf (l.take (k + 1)) = bsOf (l.take k) ++ [(l.getD k bsz).b] := by
  rw [List.take_succ_eq_append_getElem h, bsOf_app]
  simp [bsOf, List.getD, h]
/-- Where a segment's batches stand among all. -/
theorem flat_at (L : List Sg) (s k : Nat) (hs : s < L.length) (hk : k < (L.getD s sgz).ss.length) : (flatB (L.take s)).length + k < (flatB L).length ∧ (flatB L).getD ((flatB (L.take s)).length + k) bsz = (L.getD s sgz).ss.getD k bsz := by
  have e : flatB L = flatB (L.take s) ++ ((L.getD s sgz).ss ++ flatB (L.drop (s + 1))) := by
    unfold flatB
    have h1 := congrArg (fun l => (l.map Sg.ss).flatten) (List.take_append_drop s L)
    simp only [List.map_append, List.flatten_append] at h1
    rw [← h1, List.drop_eq_getElem_cons hs, List.map_cons, List.flatten_cons, getD_lt hs]
  have hl : (flatB L).length = (flatB (L.take s)).length + ((L.getD s sgz).ss.length + (flatB (L.drop (s + 1))).length) := by rw [e]; simp
  refine ⟨by omega, ?_⟩
  rw [bget_eq (by omega), bget_eq hk]
  have : (flatB L)[(flatB (L.take s)).length + k]? = some (L.getD s sgz).ss[k] := by
    rw [e, List.getElem?_append_right (by omega), Nat.add_sub_cancel_left, List.getElem?_append_left hk, List.getElem?_eq_getElem hk]
  rw [List.getElem?_eq_getElem (by omega)] at this
  exact Option.some.inj this
end Go.Proofs.Ytnnljdnaipjoiaa
