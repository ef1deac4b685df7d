/- A batch in its box. -/
import Derived.Test.YtaooidckmepdeaaDoorHd
namespace Go.Proofs.YtaooidckmepdeaaDoor
set_option linter.unusedSimpArgs false
set_option linter.unusedVariables false
open Go.RowKit
/-- The batch in its box. -/
def bcells (b : Ba) (a : Option Addr) (cap : Nat) : Array Value := #[.int .i64 b.base, .int .i64 b.span, .int .i64 b.prod, .int .i64 b.seq, .slice a b.rs.length cap]
structure BxS (w : World) (cs : Array Value) (x : World) : Prop where
  box : x.heap[w.heap.size]? = some (.cells cs 85 (0, 0))
  bel : Below w.heap.size w x
theorem BxS.new (w : World) (cs : Array Value) : BxS w cs (w.alloc (.cells cs 85)) := ⟨heap_alloc_new w _, below_box _⟩
theorem BxS.below {w x y : World} {cs : Array Value} (h : BxS w cs x) (hb : Below x.heap.size x y) : BxS w cs y :=
  ⟨(hb.block _ (Array.getElem?_eq_some_iff.1 h.box).1).trans h.box, h.bel.trans (hb.mono h.bel.size)⟩
theorem BxS.cells {w x : World} {b : Ba} {a : Option Addr} {cap : Nat} (h : BxS w (bcells b a cap) x) :
    x.cell? ⟨w.heap.size, 0, none⟩ = some (.int .i64 b.base) ∧ x.cell? ⟨w.heap.size, 1, none⟩ = some (.int .i64 b.span) ∧ x.cell? ⟨w.heap.size, 2, none⟩ = some (.int .i64 b.prod) ∧ x.cell? ⟨w.heap.size, 3, none⟩ = some (.int .i64 b.seq) ∧ x.cell? ⟨w.heap.size, 4, none⟩ = some (.slice a b.rs.length cap) ∧ w.heap.size < x.heap.size := by
  have hc : ∀ j, x.cell? ⟨w.heap.size, j, none⟩ = (bcells b a cap)[j]? := fun j => cell_of_row _ w.heap.size j _ 85 (0, 0) h.box
  exact ⟨by rw [hc]; rfl, by rw [hc]; rfl, by rw [hc]; rfl, by rw [hc]; rfl, by rw [hc]; rfl, (Array.getElem?_eq_some_iff.1 h.box).1⟩
end Go.Proofs.YtaooidckmepdeaaDoor
