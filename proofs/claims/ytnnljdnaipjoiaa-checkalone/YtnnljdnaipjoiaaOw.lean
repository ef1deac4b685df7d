/- own: a record as it is known. -/
import Derived.Test.YtnnljdnaipjoiaaAd
namespace Go.Proofs.Ytnnljdnaipjoiaa
set_option linter.unusedSimpArgs false
set_option linter.unusedVariables false
open Go.RowKit
/-- While own runs: the box, the result's cell. -/
structure OwS (w : World) (r : Rc) (y : World) : Prop where
  k : y.cell? ⟨w.heap.size, 1, none⟩ = some (.string r.k)
  v : y.cell? ⟨w.heap.size, 3, none⟩ = some (.string r.v)
  bx : y.heap[w.heap.size]? = some (.cells r.own.cells 48 (0, 0))
  res : y.heap[w.heap.size + 1]? = some (.cells rz.cells 48 (0, 0))
  bel : Below w.heap.size w y
theorem OwS.mk' {w y : World} {r : Rc} (h1 : y.heap[w.heap.size]? = some (.cells r.own.cells 48 (0, 0))) (h2 : y.heap[w.heap.size + 1]? = some (.cells rz.cells 48 (0, 0))) (hb : Below w.heap.size w y) : OwS w r y :=
  ⟨cell_of_row _ _ 1 _ _ _ h1, cell_of_row _ _ 3 _ _ _ h1, h1, h2, hb⟩
theorem OwS.lt {w y : World} {r : Rc} (h : OwS w r y) : w.heap.size + 1 < y.heap.size := (Array.getElem?_eq_some_iff.1 h.res).1
theorem OwS.below {w y z : World} {r : Rc} (h : OwS w r y) (hb : Below y.heap.size y z) : OwS w r z := by
  have := h.lt
  exact OwS.mk' ((hb.block _ (by omega)).trans h.bx) ((hb.block _ (by omega)).trans h.res) (h.bel.trans (hb.mono (by omega)))
theorem setCell_same (y : World) (b i : Nat) (cs : Array Value) (t : TypeId) (v : Value) (h : y.heap[b]? = some (.cells cs t (0, 0))) (hv : cs[i]? = some v) : (y.setCell ⟨b, i, none⟩ v).heap[b]? = some (.cells cs t (0, 0)) := by
  rw [setCell_heap h]
  congr 2
  apply Array.ext_getElem?
  intro j
  rw [Array.getElem?_setIfInBounds]
  split
  · rename_i e
    subst e
    split
    · exact hv.symm
    · rw [Array.getElem?_eq_none (by omega)] at hv; cases hv
  · rfl
theorem OwS.setK {w y : World} {r : Rc} (h : OwS w r y) : OwS w r (y.setCell ⟨w.heap.size, 1, none⟩ (.string r.k)) :=
  OwS.mk' (setCell_same y _ 1 _ _ _ h.bx rfl) ((heap_setCell_other _ _ _ _ (by simp)).trans h.res) (h.bel.setCell (by simp) _)
theorem OwS.setV {w y : World} {r : Rc} (h : OwS w r y) : OwS w r (y.setCell ⟨w.heap.size, 3, none⟩ (.string r.v)) :=
  OwS.mk' (setCell_same y _ 3 _ _ _ h.bx rfl) ((heap_setCell_other _ _ _ _ (by simp)).trans h.res) (h.bel.setCell (by simp) _)
theorem OwS.drew {w y : World} {r : Rc} (h : OwS w r y) : OwS w r y.drew := OwS.mk' h.bx h.res ⟨h.bel.os, h.bel.tape, h.bel.output, h.bel.size, h.bel.block⟩
theorem OwS.start (w : World) (r : Rc) : OwS w r ((w.alloc (.cells r.own.cells 48)).alloc (.cells rz.cells 48)) := by
  have e0 := heap_alloc_new w (.cells r.own.cells 48)
  have e1 := heap_alloc_new (w.alloc (.cells r.own.cells 48)) (.cells rz.cells 48)
  rw [show (w.alloc (.cells r.own.cells 48)).heap.size = w.heap.size + 1 by simp] at e1
  have e2 : ((w.alloc (.cells r.own.cells 48)).alloc (.cells rz.cells 48)).heap[w.heap.size]? = some (.cells r.own.cells 48 (0, 0)) := (Below.heap_alloc _ _ _ (by simp)).trans e0
  exact OwS.mk' e2 e1 ((below_box _).trans ((below_box _).mono (by simp)))
theorem frozen_cells {y : World} {b i : Nat} {cs : Array Value} {t : TypeId} (h : y.heap[b]? = some (.cells cs t (0, 0))) : y.frozen? ⟨b, i, none⟩ = false := by
  simp [World.frozen?, h]
theorem OwS.f {w y : World} {r : Rc} (h : OwS w r y) : y.frozen? ⟨w.heap.size, 1, none⟩ = false ∧ y.frozen? ⟨w.heap.size, 3, none⟩ = false := ⟨frozen_cells h.bx, frozen_cells h.bx⟩
theorem OwS.all {w y : World} {r : Rc} (h : OwS w r y) : y.cell? ⟨w.heap.size, 1, none⟩ = some (.string r.k) ∧ y.cell? ⟨w.heap.size, 3, none⟩ = some (.string r.v) ∧ y.frozen? ⟨w.heap.size, 1, none⟩ = false ∧ y.frozen? ⟨w.heap.size, 3, none⟩ = false ∧ OwS w r y := ⟨h.k, h.v, h.f.1, h.f.2, h⟩
theorem six_cells {y : World} {b : Nat} {v0 v1 v2 v3 v4 v5 : Value} {t : TypeId} (h : y.heap[b]? = some (.cells #[v0, v1, v2, v3, v4, v5] t (0, 0))) :
    y.cell? ⟨b, 0, none⟩ = some v0 ∧ y.cell? ⟨b, 1, none⟩ = some v1 ∧ y.cell? ⟨b, 2, none⟩ = some v2 ∧ y.cell? ⟨b, 3, none⟩ = some v3 ∧ y.cell? ⟨b, 4, none⟩ = some v4 ∧ y.cell? ⟨b, 5, none⟩ = some v5 ∧ ∀ i, y.frozen? ⟨b, i, none⟩ = false :=
  ⟨cell_of_row _ _ 0 _ _ _ h, cell_of_row _ _ 1 _ _ _ h, cell_of_row _ _ 2 _ _ _ h, cell_of_row _ _ 3 _ _ _ h, cell_of_row _ _ 4 _ _ _ h, cell_of_row _ _ 5 _ _ _ h, fun i => frozen_cells h⟩
theorem size48 : (Try.prog.info? 48).map (·.size) = some 6 := by kernel_rfl
theorem rc_all (r : Rc) : (r.cells.all (·.oneCell')) = true := by
  rw [Array.all_eq_true_iff_forall_mem]
  intro u hu
  simp only [Rc.cells, List.mem_toArray, List.mem_cons, List.not_mem_nil, or_false] at hu
  rcases hu with rfl | rfl | rfl | rfl | rfl | rfl <;> rfl
set_option maxRecDepth 100000 in
theorem own_any (r : Rc) (w : World) (hk : r.k.size ≤ 281474976710656) (hv : r.v.size ≤ 281474976710656) :
    Calls Try.prog 48 #[vR r] w fun e w' => e = .returned (vR r.own) ∧ Below w.heap.size w w' := by
  have HS := OwS.start w r
  obtain ⟨c0, c1, c2, c3, c4, c5⟩ := r
  simp only at hk hv
  have HK : Hid (∀ y, OwS w ⟨c0, c1, c2, c3, c4, c5⟩ y → OwS w ⟨c0, c1, c2, c3, c4, c5⟩ (y.setCell ⟨w.heap.size, 1, none⟩ (.string c1))) := fun y h => h.setK
  have HV : Hid (∀ y, OwS w ⟨c0, c1, c2, c3, c4, c5⟩ y → OwS w ⟨c0, c1, c2, c3, c4, c5⟩ (y.setCell ⟨w.heap.size, 3, none⟩ (.string c3))) := fun y h => h.setV
  have HB : Hid (∀ y z, OwS w ⟨c0, c1, c2, c3, c4, c5⟩ y → Below y.heap.size y z → OwS w ⟨c0, c1, c2, c3, c4, c5⟩ z) := fun y z h hb => h.below hb
  have hS0 := OwS.drew HS
  simp only [vR, Rc.own, Rc.cells, rz] at HS hS0 ⊢
  go_enter Try.func48, Try.ntmps48
  go_wp2
  go_region_held3 (fun y : World => y.cell? ⟨w.heap.size, 1, none⟩ = some (.string c1) ∧ y.cell? ⟨w.heap.size, 3, none⟩ = some (.string c3) ∧ y.frozen? ⟨w.heap.size, 1, none⟩ = false ∧ y.frozen? ⟨w.heap.size, 3, none⟩ = false ∧ OwS w ⟨c0, c1, c2, c3, c4, c5⟩ y) (first | exact hS0.all | exact hS1.all | exact hS2.all | exact hS2.setK.all | exact hS2.setK.setV.all) ((first
      | (have _t := hS1; go_at_call 25; refine (clone_any _ _ (by omega)).mono ?_; rintro e w2 ⟨rfl, hb2⟩; have hS2 := HB.out w1 w2 hS1 (by exact ⟨hb2.os, hb2.tape, hb2.output, hb2.size, hb2.block⟩))
      | (go_at_call 25; refine (clone_any _ _ (by omega)).mono ?_; rintro e w1 ⟨rfl, hb1⟩; have hS1 := HB.out _ w1 hS0 (by exact ⟨hb1.os, hb1.tape, hb1.output, hb1.size, hb1.block⟩))))
  have HF := hS2.setK.setV
  clear hS0 hS1 hS2 hb1 hb2 HS HK HV HB
  simp only at HF
  generalize (w2.setCell ⟨w.heap.size, 1, none⟩ (.string c1)).setCell ⟨w.heap.size, 3, none⟩ (.string c3) = w3 at *
  obtain ⟨q0, q1, q2, q3, q4, q5, qf⟩ := six_cells HF.bx
  have g0 := HF.res
  simp only [Rc.own] at q0 q1 q2 q3 q4 q5
  obtain ⟨z0, z1, z2, z3, z4, z5, zf⟩ := six_cells (setRow_heap w3 (w.heap.size + 1) _ (Rc.mk c0 c1 c2 c3 c4 0).cells _ _ g0)
  have HB : Hid (Below w.heap.size w w3) := HF.bel
  clear HF
  go_wp2_with (have _t := g0; refine wpList_store_row rfl 48 _ _ rfl (w.heap.size + 1) (Rc.mk c0 c1 c2 c3 c4 0).cells rfl rfl 48 rz.cells g0 size48 rfl (rc_all _) ?_; clear _t)
  simp only [Rc.cells] at z0 z1 z2 z3 z4 z5
  refine bodyPost_ret (v := vR ⟨c0, c1, c2, c3, c4, 0⟩) (by simp [results, Try.results48, go_sem, vR, Rc.cells, z0, z1, z2, z3, z4, z5]) rfl ⟨rfl, ?_⟩
  exact Below.trans HB.out ⟨rfl, rfl, rfl, by simp, fun x hx => setRow_other _ _ _ _ (by omega)⟩
end Go.Proofs.Ytnnljdnaipjoiaa
