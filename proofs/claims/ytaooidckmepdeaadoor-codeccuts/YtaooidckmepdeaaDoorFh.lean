/- Fresh. -/
import Derived.Test.YtaooidckmepdeaaDoorRo
import Derived.Test.YtaooidckmepdeaaDoorBe
namespace Go.Proofs.YtaooidckmepdeaaDoor
set_option linter.unusedSimpArgs false
set_option linter.unusedVariables false
open Go.RowKit
def bz : Ba := ⟨0, 0, 0, 0, []⟩
theorem Tryd.info85 : (Tryd.prog.info? 85).map (·.size) = some 5 := by kernel_rfl
theorem owns_someR {w : World} {B n : Nat} {v : Value} {xs : List Value} (h : w.ownsRow B 87 6 v n xs) (h0 : 0 < n) : ∃ g cap, v = .slice (some ⟨g, 0, none⟩) n cap ∧ g < w.heap.size ∧ B ≤ g ∧ n ≤ cap := by
  rcases h.2 with ⟨rfl, e⟩ | ⟨g, cap, cur, rfl, hB, hg, hle, _⟩
  · omega
  · exact ⟨g, cap, rfl, (Array.getElem?_eq_some_iff.1 hg).1, hB, hle⟩
theorem results_bat {fn : Func} {p u : Tmp} (h : fn.results = #[.cell p 85, .tmp u]) (tmps : Array Value) (w : World) (g : Nat) (cs : Array Value) (v : Value) (hp : tmps.getD p undef = .pointer (some ⟨g, 0, none⟩)) (hv : tmps.getD u undef = v) (hi : cs.size = 5) (hg : w.heap[g]? = some (.cells cs 85 (0, 0))) :
    (results fn tmps).run Tryd.prog w = .ok (.tuple #[.agg cs, v]) w := by
  have h2 := run_loadVar_row (P := Tryd.prog) w g 85 85 cs (0, 0) _ hg Tryd.underlying85 rfl (by rw [hi]; exact Tryd.info85)
  subst hv
  rw [results_cell_tmp h, hp]
  simp [asAddr, h2, Result.andThen]
theorem bat_one (c0 c1 c2 c3 : Int) (a : Option Addr) (n c : Nat) : (#[.int .i64 c0, .int .i64 c1, .int .i64 c2, .int .i64 c3, .slice a n c] : Array Value).all (·.oneCell') = true := by simp [Value.oneCell']
theorem cell_setRow_ne {w : World} {R b o : Nat} {cs : Array Value} (h : b ≠ R) : (w.setRow R cs).cell? ⟨b, o, none⟩ = w.cell? ⟨b, o, none⟩ := by
  unfold World.cell?
  rw [setRow_other w R b cs h]
theorem RRow.keep {w : World} {g R : Nat} {rs : List Rc} {cs : Array Value} (h : RRow w (some ⟨g, 0, none⟩) rs) (hg : g ≠ R) : RRow (w.setRow R cs) (some ⟨g, 0, none⟩) rs := by
  intro i hi
  obtain ⟨b, off, e, h0, h1, h2, h3, h4, h5⟩ := h i hi
  have hbM : b ≠ R := by
    simp only [Option.some.injEq, Addr.mk.injEq, and_true] at e
    omega
  exact ⟨b, off, e, (cell_setRow_ne hbM).trans h0, (cell_setRow_ne hbM).trans h1, (cell_setRow_ne hbM).trans h2, (cell_setRow_ne hbM).trans h3, (cell_setRow_ne hbM).trans h4, (cell_setRow_ne hbM).trans h5⟩
end Go.Proofs.YtaooidckmepdeaaDoor
