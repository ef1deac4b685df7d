/- The arguments: rows of steps; states and maps of the laws. -/
import Derived.Test.YtohncckmennfbaaDoorCi
import Derived.Deep.Slices
import Derived.ChangeSlices
namespace Go.Proofs.YtohncckmennfbaaDoor
set_option linter.unusedSimpArgs false
set_option linter.unusedVariables false
set_option maxRecDepth 100000
open Go.RowKit Go.MapKept Go.ChangeShapes Go.WideShapes Go.ChangeAt
open Go.ChangeMaps (setBlock heap_setBlock_same heap_setBlock_other)
theorem cells33 : Tryd.prog.cellsOf 33 = 3 := by kernel_rfl
theorem cells3 : Tryd.prog.cellsOf 3 = 1 := by kernel_rfl
theorem list_of {α : Type} (dflt : α) (R : Nat → α → Prop) (L : Nat) (h : ∀ i, i < L → ∃ a, R i a) : ∃ l : List α, l.length = L ∧ ∀ i, i < L → R i (l.getD i dflt) := by
  induction L with
  | zero => exact ⟨[], rfl, fun i hi => by omega⟩
  | succ L ih =>
    obtain ⟨l, hl, hr⟩ := ih (fun i hi => h i (by omega))
    obtain ⟨a, ha⟩ := h L (by omega)
    refine ⟨l ++ [a], by simp [hl], fun i hi => ?_⟩
    by_cases e : i < L
    · have : (l ++ [a]).getD i dflt = l.getD i dflt := by simp [List.getD, List.getElem?_append, show i < l.length by omega]
      rw [this]; exact hr i e
    · obtain rfl : i = L := by omega
      have : (l ++ [a]).getD i dflt = a := by simp [List.getD, ← hl]
      rw [this]; exact ha
structure Stp where
  kind : Int
  b : Int
  v : Int
def stp0 : Stp := ⟨0, 0, 0⟩
def In64 (z : Int) : Prop := -9223372036854775808 ≤ z ∧ z ≤ 9223372036854775807
def SRow (w : World) (la : Option Addr) (ss : List Stp) : Prop := ∀ i, i < ss.length → ∃ lk off, la = some ⟨lk, off, none⟩ ∧ w.cell? ⟨lk, off + i * 3, none⟩ = some (.int .i64 (ss.getD i stp0).kind) ∧ w.cell? ⟨lk, off + i * 3 + 1, none⟩ = some (.int .i64 (ss.getD i stp0).b) ∧ w.cell? ⟨lk, off + i * 3 + 2, none⟩ = some (.int .i64 (ss.getD i stp0).v) ∧ In64 (ss.getD i stp0).kind ∧ In64 (ss.getD i stp0).b ∧ In64 (ss.getD i stp0).v
theorem SRow.below {w w' : World} {la : Option Addr} {ss : List Stp} (h : SRow w la ss) (hb : Below w.heap.size w w') : SRow w' la ss := fun i hi => by
  obtain ⟨lk, off, e, h1, h2, h3, h4⟩ := h i hi
  exact ⟨lk, off, e, by rw [hb.cell (World.block_lt_of_cell? _ _ h1)]; exact h1, by rw [hb.cell (World.block_lt_of_cell? _ _ h2)]; exact h2, by rw [hb.cell (World.block_lt_of_cell? _ _ h3)]; exact h3, h4⟩
theorem steps_of {H : Type} {enc : TypeId × Value → H} {W : World} {fuel : Nat} {a0 : Option Addr} {L cap0 : Nat} {x : DataW H × List MemPlace}
    (h : DataW.trod enc Tryd.prog W 0 (fun _ => true) true fuel 22 [.slice a0 L cap0] = some x) : ∃ l : List Stp, L = l.length ∧ SRow W a0 l ∧ l.length ≤ 9223372036854775807 := by
  rcases Go.Deep.open_slice Tryd.underlying22 h with ⟨hcs, _⟩ | ⟨ad, len, cap, m, n, D, Pl, hcs, _, hl, hm, hmm, _, hx⟩
  · simp at hcs
    obtain ⟨rfl, rfl, rfl⟩ := hcs
    exact ⟨[], rfl, fun i hi => by simp at hi, by simp⟩
  · simp at hcs
    obtain ⟨rfl, rfl, rfl⟩ := hcs
    unfold maxLen at hm
    have hlm : L ≤ m := by rw [hmm]; simp; omega
    have each : ∀ i, i < L → ∃ s : Stp, ∃ b off, some ad = some ⟨b, off, none⟩ ∧ W.cell? ⟨b, off + i * 3, none⟩ = some (.int .i64 s.kind) ∧ W.cell? ⟨b, off + i * 3 + 1, none⟩ = some (.int .i64 s.b) ∧ W.cell? ⟨b, off + i * 3 + 2, none⟩ = some (.int .i64 s.v) ∧ In64 s.kind ∧ In64 s.b ∧ In64 s.v := by
      intro i hi
      have hsp : ad.spot = none := by
        obtain ⟨cs0, h10, _⟩ := hx 0 (by omega)
        rw [cells33] at h10
        obtain ⟨_, hlen0, hcell0⟩ := World.cells?_some h10
        have e := hcell0 0 (by omega)
        rw [List.getElem?_eq_getElem (by omega)] at e
        simpa [Addr.add] using World.cell?_spot e
      obtain ⟨b, off, spot⟩ := ad
      simp only at hsp
      subst hsp
      obtain ⟨cs', h1, h2⟩ := hx i (by omega)
      rw [cells33] at h1
      obtain ⟨_, hlen, hcell⟩ := World.cells?_some h1
      obtain ⟨xs, k, hk, hxy, _, hxl, hf⟩ := DataW.trod_struct Tryd.underlying33 h2
      match xs, hxl, cs', hlen with
      | [y0, y1, y2], _, [v0, v1, v2], _ =>
        have g0 := hf 0 _ rfl
        have g1 := hf 1 _ rfl
        have g2 := hf 2 _ rfl
        simp [cells3] at g0 g1 g2
        have e0 := hcell 0 (by omega)
        have e1 := hcell 1 (by omega)
        have e2 := hcell 2 (by omega)
        obtain ⟨n0, q0, _, w0⟩ := DataW.trod_int Tryd.underlying3 g0
        obtain ⟨n1, q1, _, w1⟩ := DataW.trod_int Tryd.underlying3 g1
        obtain ⟨n2, q2, _, w2⟩ := DataW.trod_int Tryd.underlying3 g2
        simp at q0 q1 q2
        subst q0; subst q1; subst q2
        rw [Addr.add_lit, Addr.add_lit] at e0 e1 e2
        simp at e0 e1 e2
        exact ⟨⟨n0, n1, n2⟩, b, off, rfl, e0, e1, e2, bd64 w0, bd64 w1, bd64 w2⟩
    obtain ⟨l, hll, hr⟩ := list_of stp0 _ L each
    exact ⟨l, hll.symm, fun i hi => by rw [hll] at hi; exact hr i hi, by omega⟩
/-- A map of so many entries. -/
theorem ent_count {es : Array MapEntry} {c : Nat} {L : List Nat} {F : Nat → Option Value} (E : Ent mkI es c F) (hF : ∀ k, (∃ v, F k = some v) ↔ k ∈ L) (hn : L.Nodup) : es.size = L.length := by
  have key : ∀ x ∈ es.toList, ∃ k : Nat, x.key = mkI k ∧ k ∈ L := fun x hx => by
    obtain ⟨k, e1, e2⟩ := E.keys x hx
    exact ⟨k, e1, (hF k).1 ⟨_, e2⟩⟩
  have hnd : (es.toList.map fun x => match x.key with | .int _ z => z.toNat | _ => 0).Nodup := by
    refine List.pairwise_map.2 ?_
    refine List.Pairwise.imp_of_mem ?_ ((stamped_iff es c).1 E.stamped).2.2
    intro x y hx hy hne
    obtain ⟨k, e1, _⟩ := key x hx
    obtain ⟨k', e1', _⟩ := key y hy
    rw [e1, e1']
    simp only [mkI, Int.toNat_natCast]
    intro e
    exact hne (by rw [e1, e1', e])
  have h1 := ndLe _ L hnd (fun k hk => by
    obtain ⟨x, hx, rfl⟩ := List.mem_map.1 hk
    obtain ⟨k, e1, h⟩ := key x hx
    rw [e1]; simpa [mkI] using h)
  have h2 := ndLe L (es.toList.map fun x => match x.key with | .int _ z => z.toNat | _ => 0) hn (fun k hk => by
    obtain ⟨v, hv⟩ := (hF k).2 hk
    obtain ⟨x, hx, e1, _⟩ := E.all k v hv
    exact List.mem_map.2 ⟨x, hx, by rw [e1]; simp [mkI]⟩)
  simp at h1 h2
  omega
/-- The law's own map of what was met. -/
def metF (hl : List Nat) (k : Nat) : Option Value := if 245 + k ∈ hl then some (.int .i64 1) else none
def MetIs (w : World) (mm : Nat) (hl : List Nat) : Prop := (∃ n, MapIs w mm mkI (metF hl) n) ∧ hl.Nodup ∧ ∀ x ∈ hl, 245 ≤ x
theorem MetIs.blk {w w' : World} {mm : Nat} {hl : List Nat} (h : MetIs w mm hl) (e : w'.heap[mm]? = w.heap[mm]?) : MetIs w' mm hl := by
  obtain ⟨⟨n, h1⟩, h2⟩ := h; exact ⟨⟨n, h1.blk e⟩, h2⟩
theorem MetIs.lt {w : World} {mm : Nat} {hl : List Nat} (h : MetIs w mm hl) : mm < w.heap.size := by
  obtain ⟨⟨n, h1⟩, h2⟩ := h; exact h1.lt
theorem MetIs.made {w : World} {mm : Nat} (h : w.heap[mm]? = some (.map #[] 0)) : MetIs w mm [] := ⟨⟨0, #[], 0, h, ⟨stamped_empty 0, by simp, fun a v h => by simp [metF] at h⟩, Nat.le_refl _⟩, by simp, by simp⟩
theorem MetIs.look {w : World} {mm : Nat} {hl : List Nat} (h : MetIs w mm hl) (k : Nat) : ∃ z : Int, (Instr.lookup 30 (.map (some mm)) (.int .i64 (k : Int)) true).run Tryd.prog w = .ok (.tuple #[.int .i64 z, .bool (decide (245 + k ∈ hl))]) w := by
  obtain ⟨⟨m, hm⟩, _⟩ := h
  have := hm.lookOk kbI Tryd.underlying30 zero3 k
  by_cases hk : 245 + k ∈ hl
  · exact ⟨1, by simpa [metF, hk, mkI] using this⟩
  · exact ⟨0, by simpa [metF, hk, mkI] using this⟩
theorem MetIs.len {w : World} {mm : Nat} {hl : List Nat} (h : MetIs w mm hl) : (Builtin.len_ #[30] 3 #[.map (some mm)]).run Tryd.prog w = .ok (.int .i64 (hl.length : Int)) w := by
  obtain ⟨⟨m, es, c, h1, En, _⟩, nd, ge⟩ := h
  have hs : es.size = (hl.map (· - 245)).length := ent_count En (fun k => by
    constructor
    · rintro ⟨v, hv⟩
      unfold metF at hv
      split at hv
      · rename_i q; exact List.mem_map.2 ⟨245 + k, q, by omega⟩
      · cases hv
    · intro q
      obtain ⟨x, hx, e⟩ := List.mem_map.1 q
      have := ge x hx
      have e2 : 245 + k = x := by omega
      exact ⟨_, by unfold metF; rw [e2, if_pos hx]⟩) (List.pairwise_map.2 (List.Pairwise.imp_of_mem (fun ha hb hne e => hne (by have := ge _ ha; have := ge _ hb; omega)) nd))
  have h2 : es.size = hl.length := by simpa using hs
  rw [← h2]
  simp [Builtin.len_, run_underlying Tryd.underlying30, goInt, MapKept.run_getObj_map h1]
theorem MetIs.store {w : World} {mm : Nat} {hl : List Nat} (h : MetIs w mm hl) (k : Nat) : ∃ es cl, (∀ w', w'.heap[mm]? = w.heap[mm]? → (Instr.mapUpdate 30 (.map (some mm)) (.int .i64 (k : Int)) (.int .i64 1)).run Tryd.prog w' = .ok () (setBlock w' mm (.map es cl))) ∧ ∀ w', w'.heap[mm]? = w.heap[mm]? → MetIs (setBlock w' mm (.map es cl)) mm (addK hl (245 + k)) := by
  have hlt := h.lt
  obtain ⟨⟨m, hm⟩, nd, ge⟩ := h
  obtain ⟨es, cl, r, En, s⟩ := hm.store kbI Tryd.underlying30 k (.int .i64 1)
  refine ⟨es, cl, r, fun w' e => ⟨⟨_, es, cl, setBlock_same _ _ _ ?_, ?_, s⟩, addK_nd nd, fun x hx => ?_⟩⟩
  · rcases Nat.lt_or_ge mm w'.heap.size with q | q
    · exact q
    · rw [Array.getElem?_eq_none q, Array.getElem?_eq_getElem hlt] at e; cases e
  · have : put (metF hl) k (.int .i64 1) = metF (addK hl (245 + k)) := by
      funext x
      unfold put metF
      by_cases e : x = k
      · subst e; simp [mem_addK]
      · have : (245 + x ∈ addK hl (245 + k)) = (245 + x ∈ hl) := by simp [mem_addK]; omega
        simp [e, this]
    rw [← this]; exact En
  · rcases mem_addK.1 hx with q | rfl
    · exact ge x q
    · omega
/-- dirty: how many homes were met. -/
theorem dirty_any {w : World} {mm : Nat} {hl : List Nat} (h : MetIs w mm hl) : Calls Tryd.prog 15 #[.map (some mm)] w fun e w' => e = .returned (.int .i64 (hl.length : Int)) ∧ w' = w := by
  have hq := h.len
  clear h
  go_enter Tryd.func15, Tryd.ntmps15
  go_wp2
  go_ret
  exact ⟨rfl, rfl⟩
/-- A state that is what the cache tells. -/
def Tells (V : Nat → List Nat) (st : List Int) : Prop := st.length = 80 ∧ ∀ k, k < 80 → V (245 + k) = bb (st.getD k 0)
theorem Tells.is {V : Nat → List Nat} {st : List Int} (h : Tells V st) : isB V st = true := isB_yes h.2
def z80 : List Int := List.replicate 80 0
theorem tells0 : Tells zs0 z80 := ⟨by simp [z80], fun k hk => by
  have : z80.getD k 0 = 0 := by
    unfold z80
    simp only [List.getD, List.getElem?_replicate, if_pos hk, Option.getD_some]
  rw [this]; show zeros = bb 0; decide +kernel⟩
theorem Tells.write {V : Nat → List Nat} {hl : List Nat} {f : Nat → List Nat} {st : List Int} (h : Tells (txV V (some (hl, f))) st) (K : Nat) (hK : K < 80) (v : Int) : Tells (txV V (some (addK hl (245 + K), updK f (245 + K) (bb v)))) (st.set K v) := by
  refine ⟨by simp [h.1], fun k hk => ?_⟩
  have h2 := h.2 k hk
  unfold txV at h2 ⊢
  simp only at h2 ⊢
  by_cases e : k = K
  · subst e
    rw [if_pos (mem_addK.2 (.inr rfl))]
    have : (st.set k v).getD k 0 = v := by simp [List.getD, h.1, hk]
    rw [this]; simp [updK]
  · have e1 : (245 + k ∈ addK hl (245 + K)) = (245 + k ∈ hl) := by simp [mem_addK]; omega
    have e2 : (st.set K v).getD k 0 = st.getD k 0 := by simp [List.getD, List.getElem?_set, show K ≠ k from fun q => e q.symm]
    have e3 : updK f (245 + K) (bb v) (245 + k) = f (245 + k) := by simp [updK]; omega
    rw [e2, e3]
    simp only [e1]
    exact h2
theorem av_set (st : List Int) (k : Nat) (x : Int) : (av st).setIfInBounds k (.int .i64 x) = av (st.set k x) := by simp [av, List.map_set]
theorem av_size (st : List Int) : (av st).size = st.length := by simp [av]
theorem av_one (st : List Int) : (av st).all (·.oneCell') = true := by
  simp only [av, List.all_toArray, List.all_eq_true]
  intro u hu2
  obtain ⟨_, _, rfl⟩ := List.mem_map.1 hu2
  rfl
theorem info29 (st : List Int) (h : st.length = 80) : (Tryd.prog.info? 29).map (·.size) = some (av st).size := by rw [av_size, h]; kernel_rfl
theorem z29 : Tryd.zeroCells29 = av z80 := by kernel_rfl
def StB (w : World) (b : Nat) (st : List Int) : Prop := w.heap[b]? = some (.cells (av st) 29 (0, 0))
theorem StB.blk {w w' : World} {b : Nat} {st : List Int} (h : StB w b st) (e : w'.heap[b]? = w.heap[b]?) : StB w' b st := e.trans h
theorem StB.set {w : World} {b : Nat} {st : List Int} (h : StB w b st) (k : Nat) (x : Int) : StB (w.setCell ⟨b, k, none⟩ (.int .i64 x)) b (st.set k x) := by
  unfold StB
  rw [heap_setCell_same _ _ _ _ _ _ h, av_set]
/-- A whole row, loaded where the guard asks for it. -/
theorem load_row_g {P : Program} {ops : Array Oper} {rest : List Oper} {o : Oper} {a : Act} {w : World} {Q : Exit → Act → World → Prop} (hgd : Region.wanted o (yielded ops a.tmps) = true) (ty : TypeId) (x : Operand) (ho : o.op = .load ty x)
    (g : Nat) (hx : a.eval x = .pointer (some ⟨g, 0, none⟩)) (t : TypeId) (cs : Array Value) (fr : Nat × Nat) (d : TypeDesc) (hg : w.heap[g]? = some (.cells cs t fr))
    (hu : P.underlying ty = some d) (hd : (match d with | .struct _ | .array _ _ => true | _ => false) = true) (hi : (P.info? ty).map (·.size) = some cs.size)
    (h : wpList P ops Q rest (a.put o.dst (.agg cs)) w) : wpList P ops Q (o :: rest) a w :=
  wpList_step fun K hK => by rw [if_pos hgd]; exact wp_load_row ty x ho g hx t cs fr d hg hu hd hi (hK _ _ h)
theorem StB.cell {w : World} {b : Nat} {st : List Int} (h : StB w b st) (hl : st.length = 80) (k : Nat) (hk : k < 80) : w.cell? ⟨b, k, none⟩ = some (.int .i64 (st.getD k 0)) ∧ w.frozen? ⟨b, k, none⟩ = false := by
  refine ⟨?_, frozen_of_row _ _ _ _ _ h⟩
  rw [cell_of_row _ _ _ _ _ _ h]
  exact av_get st k (by omega)
theorem CS.boxes {B : Nat} {w1 w w' : World} {c dp m : Nat} {V : Nat → List Nat} {X : Tx} (h : CS B [] w1 w c dp m V X) (hb : Below w.heap.size w w') (E : List Nat) (hE : ∀ x ∈ E, w.heap.size ≤ x ∧ x < w'.heap.size) : BS B w1 E w' c dp m V X := by
  obtain ⟨hF, j, d, T, h1, h2⟩ := h
  exact ⟨hF.below hb, fun x hx => ⟨Nat.le_trans (Nat.le_trans hF.big hF.size) (hE x hx).1, (hE x hx).2⟩, j, d, T, (h1.ext (fun x hx => .inr (hE x hx).1)).below hb, h2⟩
theorem ovW (W : World) : Below W.heap.size W (((W.alloc (.cells Tryd.zeroCells29 29)).alloc (.cells Tryd.zeroCells29 29)).alloc (.map #[] 0)) ∧ StB (((W.alloc (.cells Tryd.zeroCells29 29)).alloc (.cells Tryd.zeroCells29 29)).alloc (.map #[] 0)) W.heap.size z80 ∧ StB (((W.alloc (.cells Tryd.zeroCells29 29)).alloc (.cells Tryd.zeroCells29 29)).alloc (.map #[] 0)) (W.heap.size + 1) z80 ∧ (((W.alloc (.cells Tryd.zeroCells29 29)).alloc (.cells Tryd.zeroCells29 29)).alloc (.map #[] 0)).heap[W.heap.size + 1 + 1]? = some (.map #[] 0) ∧ (((W.alloc (.cells Tryd.zeroCells29 29)).alloc (.cells Tryd.zeroCells29 29)).alloc (.map #[] 0)).heap.size = W.heap.size + 3 := by
  rw [z29]
  have s1 : (W.alloc (.cells (av z80) 29)).heap.size = W.heap.size + 1 := by show (W.heap.push _).size = _; simp
  have s2 : ((W.alloc (.cells (av z80) 29)).alloc (.cells (av z80) 29)).heap.size = W.heap.size + 2 := by show ((W.heap.push _).push _).size = _; simp
  have s3 : (((W.alloc (.cells (av z80) 29)).alloc (.cells (av z80) 29)).alloc (.map #[] 0)).heap.size = W.heap.size + 3 := by show (((W.heap.push _).push _).push _).size = _; simp
  have b1 : Below W.heap.size W (W.alloc (.cells (av z80) 29)) := (Below.refl _ _).alloc (Nat.le_refl _) _
  have b2 : Below W.heap.size W ((W.alloc (.cells (av z80) 29)).alloc (.cells (av z80) 29)) := b1.alloc b1.size _
  have b3 : Below W.heap.size W (((W.alloc (.cells (av z80) 29)).alloc (.cells (av z80) 29)).alloc (.map #[] 0)) := b2.alloc b2.size _
  refine ⟨b3, ?_, ?_, ?_, s3⟩
  · exact (Below.heap_alloc _ _ _ (by omega)).trans ((Below.heap_alloc _ _ _ (by omega)).trans (heap_alloc_new W _))
  · have := heap_alloc_new (W.alloc (.cells (av z80) 29)) (.cells (av z80) 29)
    rw [s1] at this
    exact (Below.heap_alloc _ _ _ (by omega)).trans this
  · have := (MapKept.heap_alloc ((W.alloc (.cells (av z80) 29)).alloc (.cells (av z80) 29)) (.map #[] 0)).1
    rw [s2] at this
    exact this
end Go.Proofs.YtohncckmennfbaaDoor
