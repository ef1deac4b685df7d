/- batch's Decode. -/
import Derived.Test.YtaooidckmepdeaaDoorSp
import Derived.Test.YtaooidckmepdeaaDoorFh
import Derived.Deep.MidRow
namespace Go.Proofs.YtaooidckmepdeaaDoor
set_option linter.unusedSimpArgs false
set_option linter.unusedVariables false
open Go.RowKit
theorem getV_take (l : List Nat) (p n k : Nat) (h : p + n ≤ k) : getV (l.take k) p n true = getV l p n true := by
  unfold getV
  apply sm_congr
  intro j hj
  simp only [plc, if_true, List.getD, List.getElem?_take]
  rw [if_pos (by omega)]
/-- The result's box, the head's array. -/
structure DcS (w : World) (h : List Nat) (x : World) : Prop where
  res : x.heap[w.heap.size]? = some (.cells #[.int .i64 0, .int .i64 0, .int .i64 0, .int .i64 0, .slice none 0 0] 85 (0, 0))
  arr : x.heap[w.heap.size + 1]? = some (.cells (cv h).toArray 155 (0, 0))
  bel : Below w.heap.size w x
theorem DcS.below {w x y : World} {h : List Nat} (s : DcS w h x) (hb : Below x.heap.size x y) : DcS w h y :=
  ⟨(hb.block _ (Array.getElem?_eq_some_iff.1 s.res).1).trans s.res, (hb.block _ (Array.getElem?_eq_some_iff.1 s.arr).1).trans s.arr, s.bel.trans (hb.mono s.bel.size)⟩
theorem DcS.new (w : World) (h : List Nat) : DcS w h ((w.alloc (.cells #[.int .i64 0, .int .i64 0, .int .i64 0, .int .i64 0, .slice none 0 0] 85)).alloc (.cells (cv h).toArray 155)) := by
  have b1 : Below w.heap.size w (w.alloc (.cells #[.int .i64 0, .int .i64 0, .int .i64 0, .int .i64 0, .slice none 0 0] 85)) := below_box _
  refine ⟨?_, ?_, b1.alloc b1.size _⟩
  · rw [(below_box (w := w.alloc (.cells #[.int .i64 0, .int .i64 0, .int .i64 0, .int .i64 0, .slice none 0 0] 85)) _).block w.heap.size (by simp)]
    exact heap_alloc_new w _
  · have := heap_alloc_new (w.alloc (.cells #[.int .i64 0, .int .i64 0, .int .i64 0, .int .i64 0, .slice none 0 0] 85)) (.cells (cv h).toArray 155)
    simpa using this
theorem DcS.load {w x : World} {h : List Nat} (s : DcS w h x) (hl : (cv h).toArray.size = 48) : (loadVar 155 ⟨w.heap.size + 1, 0, none⟩).run Tryd.prog x = .ok (.agg (cv h).toArray) x :=
  run_loadVar_row (P := Tryd.prog) x (w.heap.size + 1) 155 155 (cv h).toArray (0, 0) _ s.arr Tryd.underlying155 rfl (by rw [hl]; exact Tryd.info155)
theorem results_bat3 {fn : Func} {p u u2 : Tmp} (h : fn.results = #[.cell p 85, .tmp u, .tmp u2]) (tmps : Array Value) (w : World) (g : Nat) (cs : Array Value) (v v2 : Value) (hp : tmps.getD p undef = .pointer (some ⟨g, 0, none⟩)) (hv : tmps.getD u undef = v) (hv2 : tmps.getD u2 undef = v2) (hi : cs.size = 5) (hg : w.heap[g]? = some (.cells cs 85 (0, 0))) :
    (results fn tmps).run Tryd.prog w = .ok (.tuple #[.agg cs, v, v2]) w := by
  have h2 := run_loadVar_row (P := Tryd.prog) w g 85 85 cs (0, 0) _ hg Tryd.underlying85 rfl (by rw [hi]; exact Tryd.info85)
  subst hv
  subst hv2
  rw [results_three h, hp]
  simp [asAddr, h2, Result.andThen]
theorem dcr_cells {x : World} {R : Nat} {c0 c1 c2 c3 : Int} {a : Option Addr} {n c : Nat} (h : x.heap[R]? = some (.cells #[.int .i64 c0, .int .i64 c1, .int .i64 c2, .int .i64 c3, .slice a n c] 85 (0, 0))) :
    x.cell? ⟨R, 0, none⟩ = some (.int .i64 c0) ∧ x.cell? ⟨R, 1, none⟩ = some (.int .i64 c1) ∧ x.cell? ⟨R, 2, none⟩ = some (.int .i64 c2) ∧ x.cell? ⟨R, 3, none⟩ = some (.int .i64 c3) ∧ x.cell? ⟨R, 4, none⟩ = some (.slice a n c) ∧ R < x.heap.size := by
  have hc : ∀ j, x.cell? ⟨R, j, none⟩ = _ := fun j => cell_of_row _ R j _ 85 (0, 0) h
  exact ⟨by rw [hc]; rfl, by rw [hc]; rfl, by rw [hc]; rfl, by rw [hc]; rfl, by rw [hc]; rfl, (Array.getElem?_eq_some_iff.1 h).1⟩
theorem RRow.keepR {w : World} {a : Option Addr} {R : Nat} {rs : List Rc} {cs : Array Value} (h : RRow w a rs) (hg : ∀ g, a = some g → g.block ≠ R) : RRow (w.setRow R cs) a rs := by
  intro i hi
  obtain ⟨b, off, e, h0, h1, h2, h3, h4, h5⟩ := h i hi
  have hbM : b ≠ R := hg _ e
  exact ⟨b, off, e, (cell_setRow_ne hbM).trans h0, (cell_setRow_ne hbM).trans h1, (cell_setRow_ne hbM).trans h2, (cell_setRow_ne hbM).trans h3, (cell_setRow_ne hbM).trans h4, (cell_setRow_ne hbM).trans h5⟩
theorem DcS.range {w x : World} {h : List Nat} (s : DcS w h x) : x.rangeAt (w.heap.size + 1) 0 (cv h) := by
  intro j v hj
  rw [cell_of_row x (w.heap.size + 1) (0 + j) (cv h).toArray 155 (0, 0) s.arr]
  simpa using hj
theorem lat_load {P : Program} {L : List Oper} {Q : Exit → Act → World → Prop} {md : Region.Mode} {S : World → Prop} {n : Nat} (i : Nat) {o : Oper} {r : List Oper} {f : Nat} {l : Array Bool} {a : Act} {w : World} (hi : L.drop i = o :: r) (hsel : Region.noSelect L.toArray = true)
    (hs : (Region.sinkB md L.toArray n && Region.chainB md L.toArray n && decide (n < L.toArray.size) && decide (i < n)) = true) (hf : Region.free md L.toArray l i = true) (hr : (Region.ready md L.toArray l).contains i = true)
    (hQ : ∀ cs c a w, Q (.panic c) (a.put o.dst (.agg cs)) w → Q (.panic c) a w) (hw : Region.wanted o (yielded L.toArray a.tmps) = true)
    (ty : TypeId) (x : Operand) (ho : o.op = .load ty x) (b off : Nat) (hx : a.eval x = .pointer (some ⟨b, off, none⟩)) (cs : List Value) (d : TypeDesc) (hc : ∀ y, S y → y.rangeAt b off cs) (hu : P.underlying ty = some d) (hd : d.isRow = true) (hi2 : (P.info? ty).map (·.size) = some cs.length) (hS : S w)
    (h : LatI P md L.toArray Q S n f (l.setIfInBounds i true) (a.put o.dst (.agg cs.toArray)) w) : LatI P md L.toArray Q S n (f + 1) l a w :=
  LatI.take (lat_at hi) hsel hs hf hr (hQ _) (yieldsIf_load_mid hw ty x ho b off hx cs d hc hu hd hi2) hS h
theorem run_slice_two (w : World) (a : Option Addr) (len cap i n : Nat) (h : i ≤ n) (h2 : n ≤ cap) : (Instr.slice 29 (.slice a len cap) (some (.int .i64 (i : Int))) (some (.int .i64 (n : Int))) none).run Tryd.prog w = .ok (.slice (cutA a cap i) (n - i) (cap - i)) w := by
  have hs : (sizeOf 5).run Tryd.prog w = .ok 1 w := by
    obtain ⟨i, hi, e⟩ := Option.map_eq_some_iff.1 Tryd.info5s
    simp [sizeOf, typeInfo, hi, e]
  have h1 : (0 : Int) ≤ (i : Int) ∧ (i : Int) ≤ (n : Int) := by omega
  have h3 : (0 : Int) ≤ (n : Int) ∧ (n : Int) ≤ (cap : Int) := by omega
  simp [Instr.slice, run_underlying Tryd.underlying29, Instr.sliceBounds, Instr.sliceBound, asIntOf, h1, h3, hs, cutA]
  rw [if_pos h2, if_pos h]
theorem row_two {w : World} {a : Option Addr} {l : List Nat} (cap i n : Nat) (hr : Row w a l) (hl : l.length ≤ cap) : Row w (cutA a cap i) ((l.take n).drop i) := by
  by_cases h : n ≤ l.length
  · exact row_cut cap i (row_take n hr) (by rw [List.length_take]; omega)
  · rw [List.take_of_length_le (by omega)]
    exact row_cut cap i hr hl
theorem run_slice_head (w : World) (ad : Addr) (len cap : Nat) (h : 48 ≤ cap) : (Instr.slice 29 (.slice (some ad) len cap) none (some (.int .i64 48)) none).run Tryd.prog w = .ok (.slice (some ad) 48 cap) w := by
  have hs : (sizeOf 5).run Tryd.prog w = .ok 1 w := by
    obtain ⟨i, hi, e⟩ := Option.map_eq_some_iff.1 Tryd.info5s
    simp [sizeOf, typeInfo, hi, e]
  have h3 : (0 : Int) ≤ 48 ∧ (48 : Int) ≤ (cap : Int) := by omega
  simp [Instr.slice, run_underlying Tryd.underlying29, Instr.sliceBounds, Instr.sliceBound, asIntOf, h3, hs]
  first | omega | (rw [if_pos h]; simp [Addr.add]) | simp [h, Addr.add]
theorem run_arrayAt (w : World) (ad : Addr) (cap : Nat) : (Instr.arrayAt 155 (.slice (some ad) 48 cap)).run Tryd.prog w = .ok (.pointer (some ad)) w := by
  simp [Instr.arrayAt, run_underlying Tryd.underlying155]
theorem row_range {w : World} {b off : Nat} {l : List Nat} (hr : Row w (some ⟨b, off, none⟩) l) (k : Nat) : w.rangeAt b off (cv (l.take k)) := by
  intro j v hj
  have := row_news (row_take k hr) j v hj
  rwa [Addr.add_lit] at this
theorem DcS.made (w : World) (h : List Nat) : DcS w h (((w.alloc (.cells #[.int .i64 0, .int .i64 0, .int .i64 0, .int .i64 0, .slice none 0 0] 85)).alloc (.cells #[.int .u8 0, .int .u8 0, .int .u8 0, .int .u8 0, .int .u8 0, .int .u8 0, .int .u8 0, .int .u8 0, .int .u8 0, .int .u8 0, .int .u8 0, .int .u8 0, .int .u8 0, .int .u8 0, .int .u8 0, .int .u8 0, .int .u8 0, .int .u8 0, .int .u8 0, .int .u8 0, .int .u8 0, .int .u8 0, .int .u8 0, .int .u8 0, .int .u8 0, .int .u8 0, .int .u8 0, .int .u8 0, .int .u8 0, .int .u8 0, .int .u8 0, .int .u8 0, .int .u8 0, .int .u8 0, .int .u8 0, .int .u8 0, .int .u8 0, .int .u8 0, .int .u8 0, .int .u8 0, .int .u8 0, .int .u8 0, .int .u8 0, .int .u8 0, .int .u8 0, .int .u8 0, .int .u8 0, .int .u8 0] 155)).setRow (w.heap.size + 1) (cv h).toArray) := by
  have b1 : Below w.heap.size w (w.alloc (.cells #[.int .i64 0, .int .i64 0, .int .i64 0, .int .i64 0, .slice none 0 0] 85)) := below_box _
  have b2 : Below w.heap.size w ((w.alloc (.cells #[.int .i64 0, .int .i64 0, .int .i64 0, .int .i64 0, .slice none 0 0] 85)).alloc (.cells #[.int .u8 0, .int .u8 0, .int .u8 0, .int .u8 0, .int .u8 0, .int .u8 0, .int .u8 0, .int .u8 0, .int .u8 0, .int .u8 0, .int .u8 0, .int .u8 0, .int .u8 0, .int .u8 0, .int .u8 0, .int .u8 0, .int .u8 0, .int .u8 0, .int .u8 0, .int .u8 0, .int .u8 0, .int .u8 0, .int .u8 0, .int .u8 0, .int .u8 0, .int .u8 0, .int .u8 0, .int .u8 0, .int .u8 0, .int .u8 0, .int .u8 0, .int .u8 0, .int .u8 0, .int .u8 0, .int .u8 0, .int .u8 0, .int .u8 0, .int .u8 0, .int .u8 0, .int .u8 0, .int .u8 0, .int .u8 0, .int .u8 0, .int .u8 0, .int .u8 0, .int .u8 0, .int .u8 0, .int .u8 0] 155)) := b1.alloc b1.size _
  have hn : ((w.alloc (.cells #[.int .i64 0, .int .i64 0, .int .i64 0, .int .i64 0, .slice none 0 0] 85)).alloc (.cells #[.int .u8 0, .int .u8 0, .int .u8 0, .int .u8 0, .int .u8 0, .int .u8 0, .int .u8 0, .int .u8 0, .int .u8 0, .int .u8 0, .int .u8 0, .int .u8 0, .int .u8 0, .int .u8 0, .int .u8 0, .int .u8 0, .int .u8 0, .int .u8 0, .int .u8 0, .int .u8 0, .int .u8 0, .int .u8 0, .int .u8 0, .int .u8 0, .int .u8 0, .int .u8 0, .int .u8 0, .int .u8 0, .int .u8 0, .int .u8 0, .int .u8 0, .int .u8 0, .int .u8 0, .int .u8 0, .int .u8 0, .int .u8 0, .int .u8 0, .int .u8 0, .int .u8 0, .int .u8 0, .int .u8 0, .int .u8 0, .int .u8 0, .int .u8 0, .int .u8 0, .int .u8 0, .int .u8 0, .int .u8 0] 155)).heap[w.heap.size + 1]? = some (.cells #[.int .u8 0, .int .u8 0, .int .u8 0, .int .u8 0, .int .u8 0, .int .u8 0, .int .u8 0, .int .u8 0, .int .u8 0, .int .u8 0, .int .u8 0, .int .u8 0, .int .u8 0, .int .u8 0, .int .u8 0, .int .u8 0, .int .u8 0, .int .u8 0, .int .u8 0, .int .u8 0, .int .u8 0, .int .u8 0, .int .u8 0, .int .u8 0, .int .u8 0, .int .u8 0, .int .u8 0, .int .u8 0, .int .u8 0, .int .u8 0, .int .u8 0, .int .u8 0, .int .u8 0, .int .u8 0, .int .u8 0, .int .u8 0, .int .u8 0, .int .u8 0, .int .u8 0, .int .u8 0, .int .u8 0, .int .u8 0, .int .u8 0, .int .u8 0, .int .u8 0, .int .u8 0, .int .u8 0, .int .u8 0] 155 (0, 0)) := by
    have := heap_alloc_new (w.alloc (.cells #[.int .i64 0, .int .i64 0, .int .i64 0, .int .i64 0, .slice none 0 0] 85)) (.cells #[.int .u8 0, .int .u8 0, .int .u8 0, .int .u8 0, .int .u8 0, .int .u8 0, .int .u8 0, .int .u8 0, .int .u8 0, .int .u8 0, .int .u8 0, .int .u8 0, .int .u8 0, .int .u8 0, .int .u8 0, .int .u8 0, .int .u8 0, .int .u8 0, .int .u8 0, .int .u8 0, .int .u8 0, .int .u8 0, .int .u8 0, .int .u8 0, .int .u8 0, .int .u8 0, .int .u8 0, .int .u8 0, .int .u8 0, .int .u8 0, .int .u8 0, .int .u8 0, .int .u8 0, .int .u8 0, .int .u8 0, .int .u8 0, .int .u8 0, .int .u8 0, .int .u8 0, .int .u8 0, .int .u8 0, .int .u8 0, .int .u8 0, .int .u8 0, .int .u8 0, .int .u8 0, .int .u8 0, .int .u8 0] 155)
    simpa using this
  refine ⟨?_, setRow_heap _ _ _ _ _ _ hn, below_setRow b2 (by omega) _⟩
  rw [setRow_other _ _ _ _ (by omega), (below_box (w := w.alloc (.cells #[.int .i64 0, .int .i64 0, .int .i64 0, .int .i64 0, .slice none 0 0] 85)) _).block w.heap.size (by simp)]
  exact heap_alloc_new w _
theorem dc_zero (w : World) : ((w.alloc (.cells #[.int .i64 0, .int .i64 0, .int .i64 0, .int .i64 0, .slice none 0 0] 85)).alloc (.cells #[.int .u8 0, .int .u8 0, .int .u8 0, .int .u8 0, .int .u8 0, .int .u8 0, .int .u8 0, .int .u8 0, .int .u8 0, .int .u8 0, .int .u8 0, .int .u8 0, .int .u8 0, .int .u8 0, .int .u8 0, .int .u8 0, .int .u8 0, .int .u8 0, .int .u8 0, .int .u8 0, .int .u8 0, .int .u8 0, .int .u8 0, .int .u8 0, .int .u8 0, .int .u8 0, .int .u8 0, .int .u8 0, .int .u8 0, .int .u8 0, .int .u8 0, .int .u8 0, .int .u8 0, .int .u8 0, .int .u8 0, .int .u8 0, .int .u8 0, .int .u8 0, .int .u8 0, .int .u8 0, .int .u8 0, .int .u8 0, .int .u8 0, .int .u8 0, .int .u8 0, .int .u8 0, .int .u8 0, .int .u8 0] 155)).heap[w.heap.size + 1]? = some (.cells #[.int .u8 0, .int .u8 0, .int .u8 0, .int .u8 0, .int .u8 0, .int .u8 0, .int .u8 0, .int .u8 0, .int .u8 0, .int .u8 0, .int .u8 0, .int .u8 0, .int .u8 0, .int .u8 0, .int .u8 0, .int .u8 0, .int .u8 0, .int .u8 0, .int .u8 0, .int .u8 0, .int .u8 0, .int .u8 0, .int .u8 0, .int .u8 0, .int .u8 0, .int .u8 0, .int .u8 0, .int .u8 0, .int .u8 0, .int .u8 0, .int .u8 0, .int .u8 0, .int .u8 0, .int .u8 0, .int .u8 0, .int .u8 0, .int .u8 0, .int .u8 0, .int .u8 0, .int .u8 0, .int .u8 0, .int .u8 0, .int .u8 0, .int .u8 0, .int .u8 0, .int .u8 0, .int .u8 0, .int .u8 0] 155 (0, 0)) := by
  have := heap_alloc_new (w.alloc (.cells #[.int .i64 0, .int .i64 0, .int .i64 0, .int .i64 0, .slice none 0 0] 85)) (.cells #[.int .u8 0, .int .u8 0, .int .u8 0, .int .u8 0, .int .u8 0, .int .u8 0, .int .u8 0, .int .u8 0, .int .u8 0, .int .u8 0, .int .u8 0, .int .u8 0, .int .u8 0, .int .u8 0, .int .u8 0, .int .u8 0, .int .u8 0, .int .u8 0, .int .u8 0, .int .u8 0, .int .u8 0, .int .u8 0, .int .u8 0, .int .u8 0, .int .u8 0, .int .u8 0, .int .u8 0, .int .u8 0, .int .u8 0, .int .u8 0, .int .u8 0, .int .u8 0, .int .u8 0, .int .u8 0, .int .u8 0, .int .u8 0, .int .u8 0, .int .u8 0, .int .u8 0, .int .u8 0, .int .u8 0, .int .u8 0, .int .u8 0, .int .u8 0, .int .u8 0, .int .u8 0, .int .u8 0, .int .u8 0] 155)
  simpa using this
set_option maxHeartbeats 1600000 in
set_option maxRecDepth 100000 in
theorem bdecode_short (a : Option Addr) (cap : Nat) (l : List Nat) (w : World) (ht : Tab w) (hr : Row w a l) (hl : l.length ≤ cap) (hc : cap ≤ maxLen) (hl2 : l.length ≤ 1000000000000) (h48 : l.length < 48) :
    Calls Tryd.prog 87 #[.slice a l.length cap] w fun e w' => (OkB l → ∃ a' c', e = .returned (.tuple #[bav (bOf l) a' c', .int .i64 ((lenN l : Nat) : Int), .int .i64 0]) ∧ RRow w' a' (bOf l).rs ∧ (a' = none → c' = 0) ∧ (∀ g, a' = some g → w.heap.size ≤ g.block)) ∧ (¬ OkB l → e = .returned (.tuple #[bav bz none 0, .int .i64 0, .int .i64 10])) ∧ Below w.heap.size w w' := by
  have HNO : Hid (¬ OkB l) := fun h => by have := h.l48; omega
  obtain ⟨n, HN⟩ : ∃ n, Hid (l.length = n) := ⟨_, rfl⟩
  have hnI : (n : Int) < 48 := by have := HN.out; omega
  rw [HN.out]
  obtain ⟨PO, HPO⟩ : ∃ PO : Ending → World → Prop, Hid (∀ e w', (e = .returned (.tuple #[bav bz none 0, .int .i64 0, .int .i64 10]) ∧ Below w.heap.size w w') → PO e w') ∧ Hid (PO = fun e w' => (OkB l → ∃ a' c', e = .returned (.tuple #[bav (bOf l) a' c', .int .i64 ((lenN l : Nat) : Int), .int .i64 0]) ∧ RRow w' a' (bOf l).rs ∧ (a' = none → c' = 0) ∧ (∀ g, a' = some g → w.heap.size ≤ g.block)) ∧ (¬ OkB l → e = .returned (.tuple #[bav bz none 0, .int .i64 0, .int .i64 10])) ∧ Below w.heap.size w w') := ⟨_, fun e w' h => ⟨fun q => absurd q HNO.out, fun _ => h.1, h.2⟩, rfl⟩
  rw [← HPO.2.out]
  have HP1 := HPO.1
  clear HPO HNO hr
  have HZ : Hid ((w.alloc (.cells #[.int .i64 0, .int .i64 0, .int .i64 0, .int .i64 0, .slice none 0 0] 85)).heap[w.heap.size]? = some (.cells #[.int .i64 0, .int .i64 0, .int .i64 0, .int .i64 0, .slice none 0 0] 85 (0, 0))) := heap_alloc_new w _
  go_enter Tryd.func87, Tryd.ntmps87
  go_wp2_with (have _t := HZ; refine wpList_store_row rfl 85 _ _ rfl w.heap.size #[.int .i64 0, .int .i64 0, .int .i64 0, .int .i64 0, .slice none 0 0] rfl rfl 85 _ HZ.out Tryd.info85 rfl (bat_one _ _ _ _ _ _ _) ?_)
  refine bodyPost_ret (v := .tuple #[.agg #[.int .i64 0, .int .i64 0, .int .i64 0, .int .i64 0, .slice none 0 0], .int .i64 0, .int .i64 10]) ?_ rfl (HP1.out _ _ ⟨rfl, below_setRow (below_box _) (Nat.le_refl _) _⟩)
  exact results_bat3 (p := 2) (u := 3) (u2 := 4) (by rfl) _ _ w.heap.size _ _ _ (by rfl) (by rfl) (by rfl) rfl (setRow_heap _ _ _ _ _ _ HZ.out)
set_option maxHeartbeats 1600000 in
set_option maxRecDepth 100000 in
theorem bdecode_size (a : Option Addr) (cap : Nat) (l : List Nat) (w : World) (ht : Tab w) (hr : Row w a l) (hl : l.length ≤ cap) (hc : cap ≤ maxLen) (hl2 : l.length ≤ 1000000000000) (h48 : 48 ≤ l.length) (hsz : lenN l < 48 ∨ l.length < lenN l ∨ 6000 < lenN l) :
    Calls Tryd.prog 87 #[.slice a l.length cap] w fun e w' => (OkB l → ∃ a' c', e = .returned (.tuple #[bav (bOf l) a' c', .int .i64 ((lenN l : Nat) : Int), .int .i64 0]) ∧ RRow w' a' (bOf l).rs ∧ (a' = none → c' = 0) ∧ (∀ g, a' = some g → w.heap.size ≤ g.block)) ∧ (¬ OkB l → e = .returned (.tuple #[bav bz none 0, .int .i64 0, .int .i64 10])) ∧ Below w.heap.size w w' := by
  have h0 : 0 < l.length := by omega
  obtain ⟨pb, poff, rfl, hc0, _⟩ := hr 0 h0
  have hpb : pb < w.heap.size := by have := World.block_lt_of_cell? _ _ hc0; simpa using this
  clear hc0
  have hmem := mem_lt (fun i => hr.lt i)
  have hgl := fun i n => getV_lt l i n (fun j => hr.lt j)
  obtain ⟨PO, HPO⟩ : ∃ PO : Ending → World → Prop, Hid (PO = fun e w' => (OkB l → ∃ a' c', e = .returned (.tuple #[bav (bOf l) a' c', .int .i64 ((lenN l : Nat) : Int), .int .i64 0]) ∧ RRow w' a' (bOf l).rs ∧ (a' = none → c' = 0) ∧ (∀ g, a' = some g → w.heap.size ≤ g.block)) ∧ (¬ OkB l → e = .returned (.tuple #[bav bz none 0, .int .i64 0, .int .i64 10])) ∧ Below w.heap.size w w') := ⟨_, rfl⟩
  have HPB : Hid (¬ OkB l → ∀ e w', (e = .returned (.tuple #[.agg #[.int .i64 0, .int .i64 0, .int .i64 0, .int .i64 0, .slice none 0 0], .int .i64 0, .int .i64 10]) ∧ Below w.heap.size w w') → PO e w') := fun hn e w' h => by rw [HPO.out]; exact ⟨fun q => absurd q hn, fun _ => h.1, h.2⟩
  have HPG : Hid (OkB l → ∀ e w', (∃ a' c', e = .returned (.tuple #[bav (bOf l) a' c', .int .i64 ((lenN l : Nat) : Int), .int .i64 0]) ∧ RRow w' a' (bOf l).rs ∧ (a' = none → c' = 0) ∧ (∀ g, a' = some g → w.heap.size ≤ g.block)) → Below w.heap.size w w' → PO e w') := fun hy e w' h hb => by rw [HPO.out]; exact ⟨fun _ => h, fun q => absurd hy q, hb⟩
  rw [← HPO.out]
  clear HPO
  obtain ⟨h, HHD⟩ : ∃ h, Hid (l.take 48 = h) := ⟨_, rfl⟩
  have hh48 : h.length = 48 := by rw [← HHD.out, List.length_take]; omega
  have HRG : Hid (∀ y, Below w.heap.size w y → y.rangeAt pb poff (cv h)) := fun y hb => by rw [← HHD.out]; exact row_range (hr.below hb) 48
  have HCL : Hid ((cv h).length = 48) := by show _ = _; rw [cv_length, hh48]
  have HSZ : Hid ((cv h).toArray.size = 48) := arr_size HCL.out
  have HLD : Hid (∀ y, DcS w h y → (loadVar 155 ⟨w.heap.size + 1, 0, none⟩).run Tryd.prog y = .ok (.agg (cv h).toArray) y) := fun y hy => DcS.load hy HSZ.out
  have hhm : ∀ i, h.getD i 0 < 256 := by rw [← HHD.out]; exact lt_mem (fun x hx => hmem x (List.mem_of_mem_take hx))
  have num4 : ∀ i : Nat, i + 4 ≤ 48 → ∀ x, Calls Tryd.prog 98 #[.agg (cv h).toArray, .int .i64 (i : Int), .int .i64 4] x fun e w' => e = .returned (.int .i64 ((getV l i 4 true : Nat) : Int)) ∧ Below x.heap.size x w' := by
    intro i hi x
    have h2 := number_in h i 4 x hh48 hhm (by decide) (by decide) hi
    rw [← HHD.out, getV_take l i 4 48 hi, HHD.out] at h2
    have h3 := hgl i 4
    rw [w64 _ (by omega) (by omega)] at h2
    exact h2
  have num8 : ∀ i : Nat, i + 8 ≤ 48 → ∀ x, Calls Tryd.prog 98 #[.agg (cv h).toArray, .int .i64 (i : Int), .int .i64 8] x fun e w' => e = .returned (.int .i64 (wrap64 (getV l i 8 true))) ∧ Below x.heap.size x w' := by
    intro i hi x
    have h2 := number_in h i 8 x hh48 hhm (by decide) (by decide) hi
    rw [← HHD.out, getV_take l i 8 48 hi, HHD.out] at h2
    exact h2
  have HN0 : Hid _ := num8 0 (by decide)
  have HN1 : Hid _ := num4 8 (by decide)
  have HN2 : Hid _ := num4 12 (by decide)
  have HN3 : Hid _ := num8 16 (by decide)
  have HN4 : Hid _ := num8 24 (by decide)
  have HN5 : Hid _ := num4 32 (by decide)
  have HN6 : Hid _ := num4 36 (by decide)
  have HN7 : Hid _ := num8 40 (by decide)
  have hx1 := hgl 8 4
  have hx6 := hgl 36 4
  have hx2 := hgl 12 4
  have hLN : lenN l = 12 + getV l 8 4 true := rfl
  have HOK : Hid (OkB l → 48 ≤ lenN l ∧ lenN l ≤ l.length ∧ lenN l ≤ 6000 ∧ P.sum ((l.take (lenN l)).drop 16) = getV l 12 4 true) := fun h => ⟨h.n48, h.nl, h.nm, h.sum⟩
  have HCT : Hid (cntOf l = getV l 36 4 true ∧ frsOf l = wrap64 (getV l 40 8 true)) := ⟨rfl, rfl⟩
  have HBO : Hid (∀ rs, recs (partOf l) (frsOf l) (cntOf l) = rs → bOf l = ⟨wrap64 (getV l 0 8 true), getV l 32 4 true, wrap64 (getV l 16 8 true), wrap64 (getV l 24 8 true), rs⟩) := fun rs h => by unfold bOf; rw [h]
  clear hgl num4 num8
  generalize getV l 0 8 true = X0 at *
  generalize getV l 8 4 true = X1 at *
  generalize hX2V : getV l 12 4 true = X2 at *
  have HX2V : Hid (getV l 12 4 true = X2) := hX2V
  clear hX2V
  generalize getV l 16 8 true = X3 at *
  generalize getV l 24 8 true = X4 at *
  generalize getV l 32 4 true = X5 at *
  generalize getV l 36 4 true = X6 at *
  generalize getV l 40 8 true = X7 at *
  generalize wrap64 (X0 : Int) = B0 at *
  generalize wrap64 (X3 : Int) = B3 at *
  generalize wrap64 (X4 : Int) = B4 at *
  generalize wrap64 (X7 : Int) = B7 at *
  obtain ⟨NN, HNN⟩ : ∃ NN, Hid (lenN l = NN) := ⟨_, rfl⟩
  rw [HNN.out] at hLN HOK HPG hsz
  have hwN : IntKind.i64.wrap (12 + (X1 : Int)) = (NN : Int) := by rw [IntKind.wrap_i64]; omega
  have HNI : Hid ((12 : Int) + (X1 : Int) = (NN : Int)) := by show _ = _; omega
  have HIC : Hid ((Tryd.prog.info? 155).map (·.size) = some (cv h).length) := by show _ = _; rw [HCL.out]; exact Tryd.info155
  have ks0 := fun y => run_slice_head y ⟨pb, poff, none⟩ l.length cap (by omega)
  have ka := fun y => run_arrayAt y ⟨pb, poff, none⟩ cap
  have hlI : ¬ (l.length : Int) < 48 := by omega
  have tokA : True := trivial
  have HROW : Hid (Row w (some ⟨pb, poff, none⟩) l) := hr
  have HT : Hid (Tab w) := ht
  clear hr ht hh48 hhm hLN
  by_cases g1 : NN < 48
  · have g1I : (NN : Int) < 48 := by omega
    have HNO : Hid (¬ OkB l) := fun q => by have := (HOK.out q).1; omega
    as_aux_lemma =>
      go_enter Tryd.func87, Tryd.ntmps87
      go_wp2_with (first
        | (have _t := tokA; refine wpList_load_mid rfl 155 _ rfl pb poff rfl (cv h) _ (HRG.out _ (below_box _)) Tryd.underlying155 rfl (by rw [HCL.out]; exact Tryd.info155) ?_)
        | (have _t := tokA; refine wpList_store_row rfl 155 _ _ rfl (w.heap.size + 1) (cv h).toArray rfl rfl 155 #[.int .u8 0, .int .u8 0, .int .u8 0, .int .u8 0, .int .u8 0, .int .u8 0, .int .u8 0, .int .u8 0, .int .u8 0, .int .u8 0, .int .u8 0, .int .u8 0, .int .u8 0, .int .u8 0, .int .u8 0, .int .u8 0, .int .u8 0, .int .u8 0, .int .u8 0, .int .u8 0, .int .u8 0, .int .u8 0, .int .u8 0, .int .u8 0, .int .u8 0, .int .u8 0, .int .u8 0, .int .u8 0, .int .u8 0, .int .u8 0, .int .u8 0, .int .u8 0, .int .u8 0, .int .u8 0, .int .u8 0, .int .u8 0, .int .u8 0, .int .u8 0, .int .u8 0, .int .u8 0, .int .u8 0, .int .u8 0, .int .u8 0, .int .u8 0, .int .u8 0, .int .u8 0, .int .u8 0, .int .u8 0] (dc_zero w) (by rw [HSZ.out]; exact Tryd.info155) (by rw [HSZ.out]; rfl) (arr_one h) ?_; clear tokA _t; have HX : Hid (DcS w h (((w.alloc (.cells #[.int .i64 0, .int .i64 0, .int .i64 0, .int .i64 0, .slice none 0 0] 85)).alloc (.cells #[.int .u8 0, .int .u8 0, .int .u8 0, .int .u8 0, .int .u8 0, .int .u8 0, .int .u8 0, .int .u8 0, .int .u8 0, .int .u8 0, .int .u8 0, .int .u8 0, .int .u8 0, .int .u8 0, .int .u8 0, .int .u8 0, .int .u8 0, .int .u8 0, .int .u8 0, .int .u8 0, .int .u8 0, .int .u8 0, .int .u8 0, .int .u8 0, .int .u8 0, .int .u8 0, .int .u8 0, .int .u8 0, .int .u8 0, .int .u8 0, .int .u8 0, .int .u8 0, .int .u8 0, .int .u8 0, .int .u8 0, .int .u8 0, .int .u8 0, .int .u8 0, .int .u8 0, .int .u8 0, .int .u8 0, .int .u8 0, .int .u8 0, .int .u8 0, .int .u8 0, .int .u8 0, .int .u8 0, .int .u8 0] 155)).setRow (w.heap.size + 1) (cv h).toArray)) := DcS.made w h; generalize ((w.alloc (.cells #[.int .i64 0, .int .i64 0, .int .i64 0, .int .i64 0, .slice none 0 0] 85)).alloc (.cells #[.int .u8 0, .int .u8 0, .int .u8 0, .int .u8 0, .int .u8 0, .int .u8 0, .int .u8 0, .int .u8 0, .int .u8 0, .int .u8 0, .int .u8 0, .int .u8 0, .int .u8 0, .int .u8 0, .int .u8 0, .int .u8 0, .int .u8 0, .int .u8 0, .int .u8 0, .int .u8 0, .int .u8 0, .int .u8 0, .int .u8 0, .int .u8 0, .int .u8 0, .int .u8 0, .int .u8 0, .int .u8 0, .int .u8 0, .int .u8 0, .int .u8 0, .int .u8 0, .int .u8 0, .int .u8 0, .int .u8 0, .int .u8 0, .int .u8 0, .int .u8 0, .int .u8 0, .int .u8 0, .int .u8 0, .int .u8 0, .int .u8 0, .int .u8 0, .int .u8 0, .int .u8 0, .int .u8 0, .int .u8 0] 155)).setRow (w.heap.size + 1) (cv h).toArray = x0 at HX ⊢; have HX0 : Hid (DcS w h x0) := HX; clear HX)
        | (have _t := HX0; refine wpList_load_row rfl 155 _ rfl (w.heap.size + 1) rfl 155 (cv h).toArray (0, 0) _ HX0.out.arr Tryd.underlying155 rfl (by rw [HSZ.out]; exact Tryd.info155) ?_)
        | (go_at_call 98; have _t := HX0; refine (HN1.out _).mono ?_; rintro e x1 ⟨rfl, hb⟩; have HX1 : Hid (DcS w h x1) := DcS.below HX0.out hb; clear hb HX0 _t)
        | (have _t := HX1; refine wpList_store_row rfl 85 _ _ rfl w.heap.size #[.int .i64 0, .int .i64 0, .int .i64 0, .int .i64 0, .slice none 0 0] rfl rfl 85 _ HX1.out.res Tryd.info85 rfl (bat_one _ _ _ _ _ _ _) ?_))
      refine bodyPost_ret (v := .tuple #[.agg #[.int .i64 0, .int .i64 0, .int .i64 0, .int .i64 0, .slice none 0 0], .int .i64 0, .int .i64 10]) ?_ rfl (HPB.out HNO.out _ _ ⟨rfl, below_setRow HX1.out.bel (Nat.le_refl _) _⟩)
      exact results_bat3 (p := 2) (u := 3) (u2 := 4) (by rfl) _ _ w.heap.size _ _ _ (by rfl) (by rfl) (by rfl) rfl (setRow_heap _ _ _ _ _ _ HX1.out.res)
  have g1d : decide ((NN : Int) < 48) = false := decide_eq_false (by omega)
  by_cases g2 : l.length < NN
  · have g2I : (l.length : Int) < (NN : Int) := by omega
    have HNO : Hid (¬ OkB l) := fun q => by have := (HOK.out q).2.1; omega
    as_aux_lemma =>
      go_enter Tryd.func87, Tryd.ntmps87
      go_wp2_with (first
        | (have _t := tokA; refine wpList_load_mid rfl 155 _ rfl pb poff rfl (cv h) _ (HRG.out _ (below_box _)) Tryd.underlying155 rfl (by rw [HCL.out]; exact Tryd.info155) ?_)
        | (have _t := tokA; refine wpList_store_row rfl 155 _ _ rfl (w.heap.size + 1) (cv h).toArray rfl rfl 155 #[.int .u8 0, .int .u8 0, .int .u8 0, .int .u8 0, .int .u8 0, .int .u8 0, .int .u8 0, .int .u8 0, .int .u8 0, .int .u8 0, .int .u8 0, .int .u8 0, .int .u8 0, .int .u8 0, .int .u8 0, .int .u8 0, .int .u8 0, .int .u8 0, .int .u8 0, .int .u8 0, .int .u8 0, .int .u8 0, .int .u8 0, .int .u8 0, .int .u8 0, .int .u8 0, .int .u8 0, .int .u8 0, .int .u8 0, .int .u8 0, .int .u8 0, .int .u8 0, .int .u8 0, .int .u8 0, .int .u8 0, .int .u8 0, .int .u8 0, .int .u8 0, .int .u8 0, .int .u8 0, .int .u8 0, .int .u8 0, .int .u8 0, .int .u8 0, .int .u8 0, .int .u8 0, .int .u8 0, .int .u8 0] (dc_zero w) (by rw [HSZ.out]; exact Tryd.info155) (by rw [HSZ.out]; rfl) (arr_one h) ?_; clear tokA _t; have HX : Hid (DcS w h (((w.alloc (.cells #[.int .i64 0, .int .i64 0, .int .i64 0, .int .i64 0, .slice none 0 0] 85)).alloc (.cells #[.int .u8 0, .int .u8 0, .int .u8 0, .int .u8 0, .int .u8 0, .int .u8 0, .int .u8 0, .int .u8 0, .int .u8 0, .int .u8 0, .int .u8 0, .int .u8 0, .int .u8 0, .int .u8 0, .int .u8 0, .int .u8 0, .int .u8 0, .int .u8 0, .int .u8 0, .int .u8 0, .int .u8 0, .int .u8 0, .int .u8 0, .int .u8 0, .int .u8 0, .int .u8 0, .int .u8 0, .int .u8 0, .int .u8 0, .int .u8 0, .int .u8 0, .int .u8 0, .int .u8 0, .int .u8 0, .int .u8 0, .int .u8 0, .int .u8 0, .int .u8 0, .int .u8 0, .int .u8 0, .int .u8 0, .int .u8 0, .int .u8 0, .int .u8 0, .int .u8 0, .int .u8 0, .int .u8 0, .int .u8 0] 155)).setRow (w.heap.size + 1) (cv h).toArray)) := DcS.made w h; generalize ((w.alloc (.cells #[.int .i64 0, .int .i64 0, .int .i64 0, .int .i64 0, .slice none 0 0] 85)).alloc (.cells #[.int .u8 0, .int .u8 0, .int .u8 0, .int .u8 0, .int .u8 0, .int .u8 0, .int .u8 0, .int .u8 0, .int .u8 0, .int .u8 0, .int .u8 0, .int .u8 0, .int .u8 0, .int .u8 0, .int .u8 0, .int .u8 0, .int .u8 0, .int .u8 0, .int .u8 0, .int .u8 0, .int .u8 0, .int .u8 0, .int .u8 0, .int .u8 0, .int .u8 0, .int .u8 0, .int .u8 0, .int .u8 0, .int .u8 0, .int .u8 0, .int .u8 0, .int .u8 0, .int .u8 0, .int .u8 0, .int .u8 0, .int .u8 0, .int .u8 0, .int .u8 0, .int .u8 0, .int .u8 0, .int .u8 0, .int .u8 0, .int .u8 0, .int .u8 0, .int .u8 0, .int .u8 0, .int .u8 0, .int .u8 0] 155)).setRow (w.heap.size + 1) (cv h).toArray = x0 at HX ⊢; have HX0 : Hid (DcS w h x0) := HX; clear HX)
        | (have _t := HX0; refine wpList_load_row rfl 155 _ rfl (w.heap.size + 1) rfl 155 (cv h).toArray (0, 0) _ HX0.out.arr Tryd.underlying155 rfl (by rw [HSZ.out]; exact Tryd.info155) ?_)
        | (go_at_call 98; have _t := HX0; refine (HN1.out _).mono ?_; rintro e x1 ⟨rfl, hb⟩; have HX1 : Hid (DcS w h x1) := DcS.below HX0.out hb; clear hb HX0 _t)
        | (have _t := HX1; refine wpList_store_row rfl 85 _ _ rfl w.heap.size #[.int .i64 0, .int .i64 0, .int .i64 0, .int .i64 0, .slice none 0 0] rfl rfl 85 _ HX1.out.res Tryd.info85 rfl (bat_one _ _ _ _ _ _ _) ?_))
      refine bodyPost_ret (v := .tuple #[.agg #[.int .i64 0, .int .i64 0, .int .i64 0, .int .i64 0, .slice none 0 0], .int .i64 0, .int .i64 10]) ?_ rfl (HPB.out HNO.out _ _ ⟨rfl, below_setRow HX1.out.bel (Nat.le_refl _) _⟩)
      exact results_bat3 (p := 2) (u := 3) (u2 := 4) (by rfl) _ _ w.heap.size _ _ _ (by rfl) (by rfl) (by rfl) rfl (setRow_heap _ _ _ _ _ _ HX1.out.res)
  have g2d : decide ((l.length : Int) < (NN : Int)) = false := decide_eq_false (by omega)
  by_cases g3 : 6000 < NN
  · have g3I : (6000 : Int) < (NN : Int) := by omega
    have HNO : Hid (¬ OkB l) := fun q => by have := (HOK.out q).2.2.1; omega
    as_aux_lemma =>
      go_enter Tryd.func87, Tryd.ntmps87
      go_wp2_with (first
        | (have _t := tokA; refine wpList_load_mid rfl 155 _ rfl pb poff rfl (cv h) _ (HRG.out _ (below_box _)) Tryd.underlying155 rfl (by rw [HCL.out]; exact Tryd.info155) ?_)
        | (have _t := tokA; refine wpList_store_row rfl 155 _ _ rfl (w.heap.size + 1) (cv h).toArray rfl rfl 155 #[.int .u8 0, .int .u8 0, .int .u8 0, .int .u8 0, .int .u8 0, .int .u8 0, .int .u8 0, .int .u8 0, .int .u8 0, .int .u8 0, .int .u8 0, .int .u8 0, .int .u8 0, .int .u8 0, .int .u8 0, .int .u8 0, .int .u8 0, .int .u8 0, .int .u8 0, .int .u8 0, .int .u8 0, .int .u8 0, .int .u8 0, .int .u8 0, .int .u8 0, .int .u8 0, .int .u8 0, .int .u8 0, .int .u8 0, .int .u8 0, .int .u8 0, .int .u8 0, .int .u8 0, .int .u8 0, .int .u8 0, .int .u8 0, .int .u8 0, .int .u8 0, .int .u8 0, .int .u8 0, .int .u8 0, .int .u8 0, .int .u8 0, .int .u8 0, .int .u8 0, .int .u8 0, .int .u8 0, .int .u8 0] (dc_zero w) (by rw [HSZ.out]; exact Tryd.info155) (by rw [HSZ.out]; rfl) (arr_one h) ?_; clear tokA _t; have HX : Hid (DcS w h (((w.alloc (.cells #[.int .i64 0, .int .i64 0, .int .i64 0, .int .i64 0, .slice none 0 0] 85)).alloc (.cells #[.int .u8 0, .int .u8 0, .int .u8 0, .int .u8 0, .int .u8 0, .int .u8 0, .int .u8 0, .int .u8 0, .int .u8 0, .int .u8 0, .int .u8 0, .int .u8 0, .int .u8 0, .int .u8 0, .int .u8 0, .int .u8 0, .int .u8 0, .int .u8 0, .int .u8 0, .int .u8 0, .int .u8 0, .int .u8 0, .int .u8 0, .int .u8 0, .int .u8 0, .int .u8 0, .int .u8 0, .int .u8 0, .int .u8 0, .int .u8 0, .int .u8 0, .int .u8 0, .int .u8 0, .int .u8 0, .int .u8 0, .int .u8 0, .int .u8 0, .int .u8 0, .int .u8 0, .int .u8 0, .int .u8 0, .int .u8 0, .int .u8 0, .int .u8 0, .int .u8 0, .int .u8 0, .int .u8 0, .int .u8 0] 155)).setRow (w.heap.size + 1) (cv h).toArray)) := DcS.made w h; generalize ((w.alloc (.cells #[.int .i64 0, .int .i64 0, .int .i64 0, .int .i64 0, .slice none 0 0] 85)).alloc (.cells #[.int .u8 0, .int .u8 0, .int .u8 0, .int .u8 0, .int .u8 0, .int .u8 0, .int .u8 0, .int .u8 0, .int .u8 0, .int .u8 0, .int .u8 0, .int .u8 0, .int .u8 0, .int .u8 0, .int .u8 0, .int .u8 0, .int .u8 0, .int .u8 0, .int .u8 0, .int .u8 0, .int .u8 0, .int .u8 0, .int .u8 0, .int .u8 0, .int .u8 0, .int .u8 0, .int .u8 0, .int .u8 0, .int .u8 0, .int .u8 0, .int .u8 0, .int .u8 0, .int .u8 0, .int .u8 0, .int .u8 0, .int .u8 0, .int .u8 0, .int .u8 0, .int .u8 0, .int .u8 0, .int .u8 0, .int .u8 0, .int .u8 0, .int .u8 0, .int .u8 0, .int .u8 0, .int .u8 0, .int .u8 0] 155)).setRow (w.heap.size + 1) (cv h).toArray = x0 at HX ⊢; have HX0 : Hid (DcS w h x0) := HX; clear HX)
        | (have _t := HX0; refine wpList_load_row rfl 155 _ rfl (w.heap.size + 1) rfl 155 (cv h).toArray (0, 0) _ HX0.out.arr Tryd.underlying155 rfl (by rw [HSZ.out]; exact Tryd.info155) ?_)
        | (go_at_call 98; have _t := HX0; refine (HN1.out _).mono ?_; rintro e x1 ⟨rfl, hb⟩; have HX1 : Hid (DcS w h x1) := DcS.below HX0.out hb; clear hb HX0 _t)
        | (have _t := HX1; refine wpList_store_row rfl 85 _ _ rfl w.heap.size #[.int .i64 0, .int .i64 0, .int .i64 0, .int .i64 0, .slice none 0 0] rfl rfl 85 _ HX1.out.res Tryd.info85 rfl (bat_one _ _ _ _ _ _ _) ?_))
      refine bodyPost_ret (v := .tuple #[.agg #[.int .i64 0, .int .i64 0, .int .i64 0, .int .i64 0, .slice none 0 0], .int .i64 0, .int .i64 10]) ?_ rfl (HPB.out HNO.out _ _ ⟨rfl, below_setRow HX1.out.bel (Nat.le_refl _) _⟩)
      exact results_bat3 (p := 2) (u := 3) (u2 := 4) (by rfl) _ _ w.heap.size _ _ _ (by rfl) (by rfl) (by rfl) rfl (setRow_heap _ _ _ _ _ _ HX1.out.res)
  exact absurd hsz (by omega)
end Go.Proofs.YtaooidckmepdeaaDoor
