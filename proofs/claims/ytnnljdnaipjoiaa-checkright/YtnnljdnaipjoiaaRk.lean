/- Rows of structs of the call's own, whatever the struct: facts, sents, spans. -/
import Derived.Test.YtnnljdnaipjoiaaRb
import Derived.Test.YtnnljdnaipjoiaaAs
namespace Go.Proofs.Ytnnljdnaipjoiaa
set_option linter.unusedSimpArgs false
set_option linter.unusedVariables false
open Go.RowKit
/-- As cells, one behind the other. -/
def rowv {α : Type} (c : α → List Value) (l : List α) : List Value := (l.map c).flatten
theorem rowv_app {α : Type} (c : α → List Value) (a b : List α) : rowv c (a ++ b) = rowv c a ++ rowv c b := by simp [rowv]
theorem rowv_cons {α : Type} (c : α → List Value) (x : α) (l : List α) : rowv c (x :: l) = c x ++ rowv c l := rfl
theorem rowv_len {α : Type} (c : α → List Value) (s : Nat) (hc : ∀ a, (c a).length = s) (l : List α) : (rowv c l).length = l.length * s := by
  induction l with
  | nil => simp [rowv]
  | cons x r ih => rw [rowv_cons, List.length_append, hc, ih, List.length_cons, Nat.succ_mul]; omega
theorem rowv_get {α : Type} (c : α → List Value) (s : Nat) (hc : ∀ a, (c a).length = s) (l : List α) (i j : Nat) (a : α) (hi : l[i]? = some a) (hj : j < s) : (rowv c l)[i * s + j]? = (c a)[j]? := by
  induction l generalizing i with
  | nil => simp at hi
  | cons x r ih =>
    rw [rowv_cons]
    cases i with
    | zero =>
      simp only [List.getElem?_cons_zero, Option.some.injEq] at hi
      subst hi
      rw [List.getElem?_append_left (by rw [hc]; omega)]
      simp
    | succ i =>
      rw [List.getElem?_append_right (by rw [hc, Nat.succ_mul]; omega), hc, show (i + 1) * s + j - s = i * s + j by rw [Nat.succ_mul]; omega, ih i (by simpa using hi)]
theorem own_rowv {α : Type} (c : α → List Value) (s : Nat) (hc : ∀ a, (c a).length = s) {w : World} {B : Nat} {T : TypeId} {v : Value} {l : List α} (h : w.ownsRow B T s v l.length (rowv c l)) (h0 : 0 < l.length) :
    ∃ g cap, v = .slice (some ⟨g, 0, none⟩) l.length cap ∧ B ≤ g ∧ g < w.heap.size ∧ ∀ (i : Nat) (a : α), l[i]? = some a → ∀ j u, (c a)[j]? = some u → w.cell? ⟨g, i * s + j, none⟩ = some u := by
  rcases h.2 with ⟨rfl, e⟩ | ⟨g, cap, cur, rfl, hB, hg, _⟩
  · omega
  · refine ⟨g, cap, rfl, hB, (Array.getElem?_eq_some_iff.1 hg).1, fun i a hi j u hu => ?_⟩
    have hj : j < s := by have := (List.getElem?_eq_some_iff.1 hu).1; rwa [hc] at this
    have := h.cells (g := g) rfl (i * s + j) u ((rowv_get c s hc l i j a hi hj).trans hu)
    simpa only [Addr.add_lit, Nat.zero_add, Nat.add_zero] using this
/-- A fact, a sent, a span. -/
def cF (x : SK × Rc) : List Value := [.string x.1.1, .int .i64 x.1.2.1, .int .i64 x.1.2.2, .bool x.2.hk, .string x.2.k, .bool x.2.hv, .string x.2.v, .int .i64 x.2.t, .int .i64 x.2.o]
def cS (x : TK × Int) : List Value := [.string x.1.1, .int .i64 x.1.2.1, .int .i64 x.1.2.2.1, .int .i64 x.1.2.2.2, .int .i64 x.2]
def cP (x : PK × (Int × Int)) : List Value := [.string x.1.1, .int .i64 x.1.2, .int .i64 x.2.1, .int .i64 x.2.2]
theorem cF_len (x : SK × Rc) : (cF x).length = 9 := rfl
theorem cS_len (x : TK × Int) : (cS x).length = 5 := rfl
theorem cP_len (x : PK × (Int × Int)) : (cP x).length = 4 := rfl
theorem cells91 : Try.prog.cellsOf 91 = 9 := by kernel_rfl
theorem cells93 : Try.prog.cellsOf 93 = 5 := by kernel_rfl
theorem cells88 : Try.prog.cellsOf 88 = 4 := by kernel_rfl
end Go.Proofs.Ytnnljdnaipjoiaa
