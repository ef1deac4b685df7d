/- state, Read: what a block holds. -/
import Derived.Test.YtohncckmennfbaaDoorDop
import Derived.Deep.WholeRow
namespace Go.Proofs.YtohncckmennfbaaDoor
set_option linter.unusedSimpArgs false
set_option linter.unusedVariables false
open Go.RowKit Go.MapKept
open Go.ChangeMaps (setBlock heap_setBlock_same heap_setBlock_other)
theorem zero81 : (Tryd.prog.info? 83).map (fun i => (i.zero, i.size)) = some (some (bv zeros), 512) := by kernel_rfl
theorem size81 (c : List Nat) (h : c.length = 512) : (Tryd.prog.info? 83).map (·.size) = some (cv c).toArray.size := by
  rw [(zero_of_info zero81).2]; simp [cv_length, h]
theorem cv_all (c : List Nat) : (cv c).toArray.all (·.oneCell') = true := by
  simp only [List.all_toArray, List.all_eq_true]
  exact cv_one c
/-- As the turn left it: 0 as at the last flush. -/
def Dv.at (d : Dv) (k t : Nat) : List Nat := if t = 0 then d.base k else (d.pend k).getD (t - 1) []
theorem Dv.Ok.at {d : Dv} (h : d.Ok) {k t : Nat} (ht : t ≤ (d.pend k).length) : (d.at k t).length = 512 ∧ ∀ i, (d.at k t).getD i 0 < 256 := by
  unfold Dv.at
  split
  · exact h.base k
  · have : (d.pend k).getD (t - 1) [] ∈ d.pend k := by simp [List.getD, show t - 1 < (d.pend k).length by omega]
    exact h.pend k _ this
theorem DevIs.lookF {w : World} {p fb pb tb : Nat} {d : Dv} (h : DevIs w p fb pb tb d) (k : Nat) (hk : k < d.n) : ∀ w', w'.heap[fb]? = w.heap[fb]? → (Instr.lookup 72 (.map (some fb)) (.int .i64 (k : Int)) false).run Tryd.prog w' = .ok (bv (d.base k)) w' := by
  obtain ⟨F, m, hF, hF2⟩ := h.fm
  exact hF.look' kbI Tryd.underlying72 (zero_of_info zero81).1 k _ (hF2 k hk)
theorem DevIs.lookP {w : World} {p fb pb tb : Nat} {d : Dv} (h : DevIs w p fb pb tb d) (k t : Nat) (hk : k < d.n) (ht : 0 < t) (ht2 : t ≤ (d.pend k).length) :
    ∀ w', w'.heap[pb]? = w.heap[pb]? → (Instr.lookup 73 (.map (some pb)) (.agg #[.int .i64 (k : Int), .int .i64 (t : Int)]) false).run Tryd.prog w' = .ok (bv (d.at k t)) w' := by
  obtain ⟨Q, m, hQ, hQ2⟩ := h.pm
  have := hQ2 k (t - 1) hk (by omega)
  rw [show t - 1 + 1 = t by omega] at this
  exact hQ.look' kbP Tryd.underlying73 (zero_of_info zero81).1 (k, t) _ (by rw [this]; simp [Dv.at, show t ≠ 0 by omega])
theorem DevIs.lookT {w : World} {p fb pb tb : Nat} {d : Dv} (h : DevIs w p fb pb tb d) (k : Nat) (hk : k < d.n) :
    ∀ w', w'.heap[tb]? = w.heap[tb]? → (Instr.lookup 30 (.map (some tb)) (.int .i64 (k : Int)) false).run Tryd.prog w' = .ok (.int .i64 ((d.pend k).length : Int)) w' := by
  obtain ⟨i0, hi, hz0, hz1, hz2⟩ := info_parts info3
  have hz : ∀ w, (zeroValue 3).run Tryd.prog w = .ok (.int .i64 0) w := fun w => by simp [zeroValue, typeInfo, hi, hz0]
  refine h.tm.look' kbI Tryd.underlying30 hz k _ ?_
  unfold Dv.turns
  by_cases hp : d.pend k = []
  · simp [hp]
  · simp [hk, hp]
set_option maxRecDepth 100000 in
theorem state_any (p fb pb tb : Nat) (d : Dv) (k t : Nat) (w : World) (h : DevIs w p fb pb tb d) (hk : k < d.n) (ht : t ≤ (d.pend k).length) :
    Calls Tryd.prog 45 #[.pointer (some ⟨p, 0, none⟩), .int .i64 (k : Int), .int .i64 (t : Int)] w fun e w' => e = .returned (bv (d.at k t)) ∧ Below w.heap.size w w' := by
  obtain ⟨c0, c1, c2, c3, c4, c5, c6⟩ := h.c
  obtain ⟨hl, _⟩ := h.ok.at ht
  have hlt := h.lt
  have hz := (zero_of_info zero81).1
  have hp : p < w.heap.size := hlt p (by simp [fp])
  have g0 := heap_alloc_new w (.cells (cv zeros).toArray 83)
  have hbel : Below w.heap.size w (w.alloc (.cells (cv zeros).toArray 83)) := (Below.refl _ _).alloc (Nat.le_refl _) _
  have hrow : ((w.alloc (.cells (cv zeros).toArray 83)).setRow w.heap.size (cv (d.at k t)).toArray).heap[w.heap.size]? = some (.cells (cv (d.at k t)).toArray 83 (0, 0)) := setRow_heap _ _ _ _ _ _ g0
  have hbel2 : Below w.heap.size w ((w.alloc (.cells (cv zeros).toArray 83)).setRow w.heap.size (cv (d.at k t)).toArray) :=
    hbel.trans ⟨rfl, rfl, rfl, by simp, fun x hx => setRow_other _ _ _ _ (by omega)⟩
  have hs := size81 (d.at k t) hl
  have HL : Hid ((d.at k t).length = 512) := hl
  unfold bv at hz
  by_cases ht0 : t = 0
  · subst ht0
    have hL := h.lookF k hk (w.alloc (.cells (cv zeros).toArray 83)) (hbel.block _ (hlt fb (by simp [fp])))
    have e0 : d.at k 0 = d.base k := by simp [Dv.at]
    rw [← e0] at hL
    clear e0
    unfold bv at hL
    go_enter Tryd.func45, Tryd.ntmps45
    go_wp2_with (refine wpList_store_row rfl 83 _ _ rfl w.heap.size (cv (d.at k 0)).toArray rfl rfl 83 (cv zeros).toArray g0 hs (by rw [List.size_toArray, List.size_toArray, cv_length, cv_length, zeros_len, HL.out]) (cv_all _) ?_)
    refine bodyPost_ret (v := .agg (cv (d.at k 0)).toArray) ?_ rfl ⟨rfl, hbel2⟩
    exact results_cell_row (by rfl) _ _ w.heap.size 83 (cv (d.at k 0)).toArray (0, 0) _ rfl hrow Tryd.underlying83 rfl hs
  · have hL := h.lookP k t hk (by omega) ht (w.alloc (.cells (cv zeros).toArray 83)) (hbel.block _ (hlt pb (by simp [fp])))
    unfold bv at hL
    have htz : ((t : Int) == 0) = false := by simp; omega
    go_enter Tryd.func45, Tryd.ntmps45
    go_wp2_with (refine wpList_store_row rfl 83 _ _ rfl w.heap.size (cv (d.at k t)).toArray rfl rfl 83 (cv zeros).toArray g0 hs (by rw [List.size_toArray, List.size_toArray, cv_length, cv_length, zeros_len, HL.out]) (cv_all _) ?_)
    refine bodyPost_ret (v := .agg (cv (d.at k t)).toArray) ?_ rfl ⟨rfl, hbel2⟩
    exact results_cell_row (by rfl) _ _ w.heap.size 83 (cv (d.at k t)).toArray (0, 0) _ rfl hrow Tryd.underlying83 rfl hs
end Go.Proofs.YtohncckmennfbaaDoor
