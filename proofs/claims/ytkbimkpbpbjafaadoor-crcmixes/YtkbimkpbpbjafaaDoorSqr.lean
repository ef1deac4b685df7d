/- square: a matrix done twice. -/
import Derived.Test.YtkbimkpbpbjafaaDoorTms
namespace Go.Proofs.YtkbimkpbpbjafaaDoor
set_option linter.unusedSimpArgs false
set_option linter.unusedVariables false
open Go.RowKit
def zero32 : List Nat := List.replicate 32 0
theorem Tryd.zero38 : (Tryd.prog.info? 38).map (fun i => (i.zero, i.size)) = some (some (.agg (mv zero32)), 32) := by kernel_rfl
theorem mv_set (l : List Nat) (i c : Nat) : mv (l.set i c) = (mv l).setIfInBounds i (.int .u32 ((c : Nat) : Int)) := by simp [mv, List.map_set]
def sq (M : List Nat) : List Nat := M.map (tl M)
theorem Below.blk {w w' : World} {g : Nat} {o : Obj} (hb : Below w.heap.size w w') (h : w.heap[g]? = some o) : w'.heap[g]? = some o := by
  have hlt : g < w.heap.size := by
    rcases Nat.lt_or_ge g w.heap.size with h' | h'
    · exact h'
    · rw [Array.getElem?_eq_none h'] at h; cases h
  rw [hb.block g hlt]; exact h
/-- Behind k words. -/
structure SqAt (M : List Nat) (k : Nat) (cur : List Nat) : Prop where
  len : cur.length = 32
  at' : ∀ j, j < k → cur.getD j 0 = tl M (M.getD j 0)
theorem getD_set (l : List Nat) (i j c : Nat) (h : j < l.length) : (l.set i c).getD j 0 = if i = j then c else l.getD j 0 := by
  simp only [List.getD, List.getElem?_set]
  by_cases e : i = j
  · subst e; simp [h]
  · simp [e]
theorem SqAt.step {M : List Nat} {k : Nat} {cur : List Nat} (h : SqAt M k cur) (hk : k < 32) : SqAt M (k + 1) (cur.set k (tl M (M.getD k 0))) := by
  refine ⟨by simp [h.len], fun j hj => ?_⟩
  rw [getD_set _ _ _ _ (by rw [h.len]; omega)]
  by_cases e : k = j
  · subst e; simp
  · rw [if_neg e]; exact h.at' j (by omega)
theorem SqAt.done {M : List Nat} {cur : List Nat} (h : SqAt M 32 cur) (hM : M.length = 32) : cur = sq M := by
  apply list_ext (by rw [h.len, sq, List.length_map, hM])
  intro i hi
  rw [h.len] at hi
  rw [h.at' i hi]
  simp [sq, List.getD, show i < M.length by omega]
theorem loaded {w : World} {g : Nat} {l : List Nat} {t : TypeId} (h : w.heap[g]? = some (.cells (mv l) t (0, 0))) (i : Nat) (hi : i < l.length) : w.cell? ⟨g, i, none⟩ = some (.int .u32 ((l.getD i 0 : Nat) : Int)) := by
  rw [cell_of_row _ g i (mv l) t (0, 0) h]; exact mv_get l i hi
theorem Tryd.info23 : (Tryd.prog.info? 23).map (·.size) = some 1 := by kernel_rfl
theorem run_index_mv (w : World) (M : List Nat) (k : Nat) (h : k < 32) (hM : M.length = 32) : (Instr.index 38 (.agg (mv M)) (.int .i64 (k : Int))).run Tryd.prog w = .ok (.int .u32 ((M.getD k 0 : Nat) : Int)) w := by
  have hs : (sizeOf 23).run Tryd.prog w = .ok 1 w := by
    obtain ⟨i, hi, e⟩ := Option.map_eq_some_iff.1 Tryd.info23
    simp [sizeOf, typeInfo, hi, e]
  have hg := mv_get M k (by omega)
  simp [Instr.index, asIntOf, run_underlying Tryd.underlying38, part, isAgg, run_underlying Tryd.underlying23, hs, h, hg]
theorem setAll (w : World) (g : Nat) (cs : Array Value) (t : TypeId) (fr : Nat × Nat) (h : w.heap[g]? = some (.cells cs t fr)) : w.setRow g cs = w := by
  obtain ⟨hlt, hv⟩ := Array.getElem?_eq_some_iff.1 h
  unfold World.setRow
  congr 1
  apply Array.ext_getElem?
  intro i
  rw [Array.getElem?_modify]
  by_cases e : g = i
  · subst e; rw [h]; simp
  · simp [e]
set_option maxRecDepth 100000 in
theorem square_any (M : List Nat) (w : World) (hM : M.length = 32) (hb : ∀ x, x ∈ M → x < 4294967296) :
    Calls Tryd.prog 19 #[.agg (mv M)] w fun e w' => e = .returned (.agg (mv (sq M))) ∧ Below w.heap.size w w' := by
  obtain ⟨hz, hsz⟩ := zero_of_info Tryd.zero38
  have hs38 : ∀ l : List Nat, l.length = 32 → (Tryd.prog.info? 38).map (·.size) = some (mv l).size := by intro l hl; rw [mv_size, hl]; exact hsz
  have HI : Hid (∀ l : List Nat, l.length = 32 → (Tryd.prog.info? 38).map (·.size) = some (mv l).size) := hs38
  have h0 := heap_alloc2_old w (.cells (mv M) 38) (.cells (mv zero32) 38)
  have h1 := heap_alloc2_new w (.cells (mv M) 38) (.cells (mv zero32) 38)
  have hbel : Below w.heap.size w ((w.alloc (.cells (mv M) 38)).alloc (.cells (mv zero32) 38)) := ((Below.refl _ _).alloc (Nat.le_refl _) _).alloc (by simp) _
  have HM : Hid (M.length = 32) := hM
  have HB : Hid (∀ x, x ∈ M → x < 4294967296) := hb
  clear hs38 hsz hM hb
  go_enter Tryd.func19, Tryd.ntmps19
  go_wp2_with (refine wpList_load_row rfl 38 _ rfl w.heap.size rfl 38 (mv M) (0, 0) _ h0 Tryd.underlying38 rfl (HI.out M HM.out) ?_)
  go_loopw [6] (fun i wr => ∃ (k : Nat) (cur : List Nat), k ≤ 32 ∧ i = .int .i64 k ∧ SqAt M k cur ∧ wr.heap[w.heap.size]? = some (.cells (mv M) 38 (0, 0)) ∧ wr.heap[w.heap.size + 1]? = some (.cells (mv cur) 38 (0, 0)) ∧ Below w.heap.size w wr) (fun i _ => 32 - (intOf i).toNat)
  case atStart => exact ⟨0, zero32, by omega, rfl, ⟨by simp [zero32], by intro j hj; omega⟩, h0, h1, hbel⟩
  case round =>
    clear h0 h1 hbel hz
    obtain ⟨k, cur, hk, rfl, hat, g0, g1, hbel⟩ := hrel
    by_cases hlt : k < 32
    · have HN : Hid (SqAt M (k + 1) (cur.set k (tl M (M.getD k 0)))) := hat.step hlt
      have hx : M.getD k 0 < 4294967296 := by
        have : M.getD k 0 ∈ M := by simp [List.getD, show k < M.length by rw [HM.out]; exact hlt]
        exact HB.out _ this
      have hkI : (k : Int) < 32 := by omega
      have hpart := mv_get M k (by rw [HM.out]; exact hlt)
      have HL : Hid (cur.length = 32) := hat.len
      obtain ⟨x, Hx⟩ : ∃ x, Hid (M.getD k 0 = x) := ⟨_, rfl⟩
      rw [Hx.out] at HN hx hpart
      obtain ⟨T, HT⟩ : ∃ T, Hid (tl M x = T) := ⟨_, rfl⟩
      rw [HT.out] at HN
      have hix := fun w' => run_index_mv w' M k hlt HM.out
      rw [Hx.out] at hix
      clear hat
      go_wp2_with (first
        | (refine wpList_load_row rfl 38 _ rfl w.heap.size rfl 38 (mv M) (0, 0) _ g0 Tryd.underlying38 rfl (HI.out M HM.out) ?_)
        | (go_at_call 18; refine (times_any M x wr HM.out HB.out hx).mono ?_; rintro e w1 ⟨rfl, hb1⟩; rw [HT.out]; have g0 := Below.blk hb1 g0; have g1 := Below.blk hb1 g1; have hcell := loaded g1 k (by rw [HL.out]; exact hlt); have hfree := frozen_of_row _ _ k _ _ g1; have hb2 : Below w.heap.size w w1 := hbel.trans (hb1.mono hbel.size)))
      have e0 := heap_setCell_other w1 ⟨w.heap.size + 1, k, none⟩ w.heap.size (.int .u32 ((T : Nat) : Int)) (by show w.heap.size ≠ w.heap.size + 1; omega)
      have e1 := heap_setCell_same w1 (w.heap.size + 1) k (mv cur) 38 (.int .u32 ((T : Nat) : Int)) g1
      rw [← mv_set] at e1
      exact ⟨⟨k + 1, cur.set k T, by omega, by go_num, HN.out, e0.trans g0, e1, hb2.setCell (by show w.heap.size ≤ w.heap.size + 1; omega) _⟩, by simp [intOf]; omega⟩
    · obtain rfl : k = 32 := by omega
      have HD : Hid (cur = sq M) := hat.done HM.out
      have HL : Hid (cur.length = 32) := hat.len
      clear hat
      have hset := setAll wr (w.heap.size + 1) (mv cur) 38 (0, 0) g1
      go_wp2_with (first
        | (refine wpList_load_row rfl 38 _ rfl (w.heap.size + 1) rfl 38 (mv cur) (0, 0) _ g1 Tryd.underlying38 rfl (HI.out cur HL.out) ?_)
        | (refine wpList_store_row rfl 38 _ _ rfl (w.heap.size + 1) (mv cur) rfl rfl 38 (mv cur) g1 (HI.out cur HL.out) rfl (mv_one cur) ?_; rw [hset]))
      refine bodyPost_ret (v := .agg (mv cur)) ?_ rfl ⟨?_, hbel⟩
      · exact results_cell_row (by rfl) _ _ (w.heap.size + 1) 38 (mv cur) (0, 0) _ rfl g1 Tryd.underlying38 rfl (HI.out cur HL.out)
      · rw [HD.out]
end Go.Proofs.YtkbimkpbpbjafaaDoor
