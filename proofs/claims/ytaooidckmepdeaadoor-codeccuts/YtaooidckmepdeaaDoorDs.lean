/- Decode's two boxes: the record that is filled, and the reader. -/
import Derived.Test.YtaooidckmepdeaaDoorPd
import Derived.Laws.ResultCell
namespace Go.Proofs.YtaooidckmepdeaaDoor
set_option linter.unusedSimpArgs false
set_option linter.unusedVariables false
open Go.RowKit
theorem setCell_heap {w : World} {g : Nat} {cs : Array Value} {t : TypeId} {fr : Nat × Nat} (h : w.heap[g]? = some (.cells cs t fr)) (i : Nat) (v : Value) : (w.setCell ⟨g, i, none⟩ v).heap[g]? = some (.cells (cs.setIfInBounds i v) t fr) := by
  have hlt : g < w.heap.size := (Array.getElem?_eq_some_iff.1 h).1
  have hv : w.heap[g] = .cells cs t fr := (Array.getElem?_eq_some_iff.1 h).2
  unfold World.setCell
  rw [Array.getElem?_eq_getElem (by simpa using hlt), Array.getElem_modify]
  simp [hv]
structure DS (M R B : Nat) (w0 w : World) (r : Rc) (l : List Nat) (bad : Bool) : Prop where
  box : w.heap[R]? = some (.cells r.cells 87 (0, 0))
  rd : RdS w B M l bad
  bel : Below M w0 w
  mr : M ≤ R
  rb : R < B
theorem DS.cells {M R B : Nat} {w0 w : World} {r : Rc} {l : List Nat} {bad : Bool} (h : DS M R B w0 w r l bad) :
    w.cell? ⟨R, 0, none⟩ = some (.bool r.hk) ∧ w.cell? ⟨R, 1, none⟩ = some (.string r.k) ∧ w.cell? ⟨R, 2, none⟩ = some (.bool r.hv) ∧ w.cell? ⟨R, 3, none⟩ = some (.string r.v) ∧ w.cell? ⟨R, 4, none⟩ = some (.int .i64 r.t) ∧ w.cell? ⟨R, 5, none⟩ = some (.int .i64 r.o) ∧ ∀ i, w.frozen? ⟨R, i, none⟩ = false := by
  have hc : ∀ j, w.cell? ⟨R, j, none⟩ = r.cells[j]? := fun j => cell_of_row _ R j r.cells 87 (0, 0) h.box
  refine ⟨by rw [hc]; rfl, by rw [hc]; rfl, by rw [hc]; rfl, by rw [hc]; rfl, by rw [hc]; rfl, by rw [hc]; rfl, fun i => ?_⟩
  simp [World.frozen?, h.box]
theorem DS.put {M R B : Nat} {w0 w : World} {r : Rc} {l : List Nat} {bad : Bool} (h : DS M R B w0 w r l bad) (i : Nat) (v : Value) (r' : Rc) (he : r.cells.setIfInBounds i v = r'.cells) : DS M R B w0 (w.setCell ⟨R, i, none⟩ v) r' l bad := by
  have hne : ∀ j, (⟨R, i, none⟩ : Addr) ≠ ⟨B, j, none⟩ := fun j e => by
    injection e with e1
    have := h.rb
    omega
  refine ⟨by rw [setCell_heap h.box, he], RdS.turn h.rd ((Below.refl M w).setCell (p := ⟨R, i, none⟩) h.mr v) (fun j => World.cell?_setCell_other _ _ _ _ (hne j)) (fun j => World.frozen?_setCell _ _ _ _), h.bel.setCell (p := ⟨R, i, none⟩) h.mr v, h.mr, h.rb⟩
theorem number_ds {M R B : Nat} {w0 w : World} {r : Rc} {l : List Nat} {bad : Bool} (h : DS M R B w0 w r l bad) :
    Calls Tryd.prog 111 #[.pointer (some ⟨B, 0, none⟩)] w fun e w' => e = .returned (.int .u64 ((numV l : Nat) : Int)) ∧ DS M R B w0 w' r (l.drop (numN l)) (bad || numN l == 0) := by
  have hmr := h.mr
  have hrb := h.rb
  refine (number_any B M l bad w (by omega) h.rd).mono ?_
  rintro e w' ⟨rfl, hr, hb, hz⟩
  exact ⟨rfl, by rw [hb.block R hrb]; exact h.box, hr, h.bel.trans (hb.mono (by omega)), hmr, hrb⟩
theorem rtx_ds {M R B : Nat} {w0 w : World} {r : Rc} {l : List Nat} {bad : Bool} (h : DS M R B w0 w r l bad) (there : Bool) :
    Calls Tryd.prog 113 #[.pointer (some ⟨B, 0, none⟩), .bool there] w fun e w' => e = .returned (.string (strN (txV there l))) ∧ DS M R B w0 w' r (txL there l) (txB there l bad) := by
  have hmr := h.mr
  have hrb := h.rb
  refine (rtx_any there B M l bad w (by omega) h.rd).mono ?_
  rintro e w' ⟨rfl, hr, hb, hz⟩
  exact ⟨rfl, by rw [hb.block R hrb]; exact h.box, hr, h.bel.trans (hb.mono (by omega)), hmr, hrb⟩
theorem Tryd.info87 : (Tryd.prog.info? 87).map (·.size) = some 6 := by kernel_rfl
theorem results_three {fn : Func} {p u u2 : Tmp} {ty : TypeId} (h : fn.results = #[.cell p ty, .tmp u, .tmp u2]) (tmps : Array Value) (P : Program) (w : World) :
    (results fn tmps).run P w =
      ((asAddr (tmps.getD p undef)).run P w).andThen fun a w₁ => ((loadVar ty a).run P w₁).andThen fun v w₂ => .ok (.tuple #[v, tmps.getD u undef, tmps.getD u2 undef]) w₂ := by
  simp only [results, h]
  simp [Sem.run_bind, Result.andThen]
theorem results_rec {fn : Func} {p u u2 : Tmp} (h : fn.results = #[.cell p 87, .tmp u, .tmp u2]) (tmps : Array Value) (w : World) (g : Nat) (r : Rc) (v v2 : Value) (hp : tmps.getD p undef = .pointer (some ⟨g, 0, none⟩)) (hv : tmps.getD u undef = v) (hv2 : tmps.getD u2 undef = v2) (hg : w.heap[g]? = some (.cells r.cells 87 (0, 0))) :
    (results fn tmps).run Tryd.prog w = .ok (.tuple #[.agg r.cells, v, v2]) w := by
  have h2 := run_loadVar_row (P := Tryd.prog) w g 87 87 r.cells (0, 0) _ hg Tryd.underlying87 rfl Tryd.info87
  subst hv
  subst hv2
  rw [results_three h, hp]
  simp [asAddr, h2, Result.andThen]
theorem below_setRow {B : Nat} {a w : World} (h : Below B a w) {g : Nat} (hg : B ≤ g) (cs : Array Value) : Below B a (w.setRow g cs) :=
  ⟨h.os, h.tape, h.output, by simp; exact h.size, fun k hk => (setRow_other w g k cs (by omega)).trans (h.block k hk)⟩
theorem rc_one (r : Rc) : r.cells.all (·.oneCell') = true := by simp [Rc.cells, Value.oneCell']
theorem Tryd.info5s : (Tryd.prog.info? 5).map (·.size) = some 1 := by kernel_rfl
theorem run_slice_from (w : World) (a : Option Addr) (len cap n : Nat) (k : IntKind) (h : n ≤ len) : (Instr.slice 29 (.slice a len cap) (some (.int k (n : Int))) none none).run Tryd.prog w = .ok (.slice (cutA a cap n) (len - n) (cap - n)) w := by
  have hs : (sizeOf 5).run Tryd.prog w = .ok 1 w := by
    obtain ⟨i, hi, e⟩ := Option.map_eq_some_iff.1 Tryd.info5s
    simp [sizeOf, typeInfo, hi, e]
  have h1 : (0 : Int) ≤ (n : Int) ∧ (n : Int) ≤ (len : Int) := by omega
  simp [Instr.slice, run_underlying Tryd.underlying29, Instr.sliceBounds, Instr.sliceBound, asIntOf, h1, hs, cutA]
  intro hh
  omega
end Go.Proofs.YtaooidckmepdeaaDoor
