/- The document's bag. -/
import Derived.Test.YtaooidckmepdeaaDoorPb
namespace Go.Proofs.YtaooidckmepdeaaDoor
set_option linter.unusedSimpArgs false
set_option linter.unusedVariables false
open Go.RowKit
/-- The cells of a bag. -/
def gbl (k i : Int) (T : Nat → ByteArray) (M : Nat → Int) (c : Bool) (s0 s1 s2 s3 : Value) : List Value :=
  Value.int .i64 k :: Value.int .i64 i :: ((List.range 2).map (fun f => Value.string (T f)) ++ ((List.range 20).map (fun f => Value.int .i64 (M f)) ++ [.bool c, s0, s1, s2, s3]))
def gbc (k i : Int) (T : Nat → ByteArray) (M : Nat → Int) (c : Bool) (s0 s1 s2 s3 : Value) : Array Value := (gbl k i T M c s0 s1 s2 s3).toArray
section
variable (k i : Int) (T : Nat → ByteArray) (M : Nat → Int) (c : Bool) (s0 s1 s2 s3 : Value)
theorem gbc_size : (gbc k i T M c s0 s1 s2 s3).size = 29 := by simp [gbc, gbl]
theorem gbc_k : (gbc k i T M c s0 s1 s2 s3)[0]? = some (.int .i64 k) ∧ (gbc k i T M c s0 s1 s2 s3)[1]? = some (.int .i64 i) := ⟨rfl, rfl⟩
theorem gbc_t (f : Nat) (h : f < 2) : (gbc k i T M c s0 s1 s2 s3)[2 + f]? = some (.string (T f)) := by
  rcases (show f = 0 ∨ f = 1 by omega) with rfl | rfl <;> rfl
theorem gbc_n (f : Nat) (h : f < 20) : (gbc k i T M c s0 s1 s2 s3)[4 + f]? = some (.int .i64 (M f)) := by
  unfold gbc gbl
  rw [List.getElem?_toArray, show 4 + f = (f + 2) + 2 by omega, List.getElem?_cons_succ, List.getElem?_cons_succ, List.getElem?_append_right (by simp), List.getElem?_append_left (by simp; omega)]
  simp [h]
theorem gbc_r : (gbc k i T M c s0 s1 s2 s3)[24]? = some (.bool c) ∧ (gbc k i T M c s0 s1 s2 s3)[25]? = some s0 ∧ (gbc k i T M c s0 s1 s2 s3)[26]? = some s1 ∧ (gbc k i T M c s0 s1 s2 s3)[27]? = some s2 ∧ (gbc k i T M c s0 s1 s2 s3)[28]? = some s3 := ⟨rfl, rfl, rfl, rfl, rfl⟩
theorem gbc_setT (f : Nat) (s : ByteArray) (h : f < 2) : (gbc k i T M c s0 s1 s2 s3).setIfInBounds (2 + f) (.string s) = gbc k i (fun g => if g = f then s else T g) M c s0 s1 s2 s3 := by
  rcases (show f = 0 ∨ f = 1 by omega) with rfl | rfl <;> rfl
theorem gbc_setN (f : Nat) (x : Int) (h : f < 20) : (gbc k i T M c s0 s1 s2 s3).setIfInBounds (4 + f) (.int .i64 x) = gbc k i T (fun g => if g = f then x else M g) c s0 s1 s2 s3 := by
  unfold gbc gbl
  rw [List.setIfInBounds_toArray, show 4 + f = (f + 2) + 2 by omega, List.set_cons_succ, List.set_cons_succ, List.set_append_right _ _ (by simp), List.set_append_left _ _ (by simp; omega)]
  congr 3
  congr 1
  congr 1
  rw [show f + 2 - ((List.range 2).map (fun f => Value.string (T f))).length = f by simp, map_set 20 f _ _ h]
  apply List.map_congr_left
  intro g _
  by_cases e : g = f <;> simp [e]
theorem gbc_setC (x : Bool) : (gbc k i T M c s0 s1 s2 s3).setIfInBounds 24 (.bool x) = gbc k i T M x s0 s1 s2 s3 := rfl
theorem gbc_setR (x : Value) : (gbc k i T M c s0 s1 s2 s3).setIfInBounds 25 x = gbc k i T M c x s1 s2 s3 := rfl
theorem gbc_one (a0 a1 a2 a3 : Option Addr) (n0 n1 n2 n3 k0 k1 k2 k3 : Nat) : (gbc k i T M c (.slice a0 n0 k0) (.slice a1 n1 k1) (.slice a2 n2 k2) (.slice a3 n3 k3)).all (·.oneCell') = true := by
  simp [gbc, gbl, List.range, List.range.loop, Value.oneCell']
end
theorem Tryd.info71 : (Tryd.prog.info? 71).map (·.size) = some 29 := by kernel_rfl
def zbg : Array Value := gbc 0 0 (fun _ => ⟨#[]⟩) (fun _ => 0) false (.slice none 0 0) (.slice none 0 0) (.slice none 0 0) (.slice none 0 0)
/-- A request's numbers within a bag. -/
def bn (b : Bd) (f : Nat) : Int := if f = 7 then 0 else (b f).n
/-- The one that is read, the cell of what is told, the bag. -/
structure BG (w : World) (t : TypeId) (Z rcs cs : Array Value) (x : World) : Prop where
  r : x.heap[w.heap.size]? = some (.cells rcs t (0, 0))
  o : x.heap[w.heap.size + 1]? = some (.cells Z 71 (0, 0))
  b : x.heap[w.heap.size + 2]? = some (.cells cs 71 (0, 0))
  sz : cs.size = 29
  bel : Below w.heap.size w x
theorem BG.put {w x : World} {t : TypeId} {Z rcs cs : Array Value} (h : BG w t Z rcs cs x) (i : Nat) (v : Value) : BG w t Z rcs (cs.setIfInBounds i v) (x.setCell ⟨w.heap.size + 2, i, none⟩ v) := by
  refine ⟨?_, ?_, ?_, by simpa using h.sz, h.bel.setCell (p := ⟨w.heap.size + 2, i, none⟩) (by simp) _⟩
  · rw [heap_setCell_other x ⟨w.heap.size + 2, i, none⟩ w.heap.size v (by simp)]
    exact h.r
  · rw [heap_setCell_other x ⟨w.heap.size + 2, i, none⟩ (w.heap.size + 1) v (by simp)]
    exact h.o
  · rw [setCell_heap h.b]
theorem wpList_putG {w x : World} {t : TypeId} {Z rcs cs : Array Value} {ops : Array Oper} {rest : List Oper} {o : Oper} {a : Act} {Q : Exit → Act → World → Prop} (hg : o.guard = none) (ty : TypeId) (p y : Operand) (ho : o.op = .store ty p y) (HB : BG w t Z rcs cs x) (i : Nat) (v : Value)
    (hp : a.eval p = .pointer (some ⟨w.heap.size + 2, i, none⟩)) (hy : a.eval y = v) (hi : i < 29)
    (hst : ∀ u, x.cell? ⟨w.heap.size + 2, i, none⟩ = some u → x.frozen? ⟨w.heap.size + 2, i, none⟩ = false → (Instr.storeAt ty (.pointer (some ⟨w.heap.size + 2, i, none⟩)) v).run Tryd.prog x = .ok () (x.setCell ⟨w.heap.size + 2, i, none⟩ v))
    (h : ∀ x', BG w t Z rcs (cs.setIfInBounds i v) x' → wpList Tryd.prog ops Q rest (a.put o.dst undef) x') : wpList Tryd.prog ops Q (o :: rest) a x := by
  refine wpList_plain hg fun K hK => ?_
  have hc : x.cell? ⟨w.heap.size + 2, i, none⟩ = some (cs[i]'(by rw [HB.sz]; exact hi)) := by
    rw [(box_at HB.b i).1, Array.getElem?_eq_getElem (by rw [HB.sz]; exact hi)]
  have hr := hst _ hc (box_at HB.b i).2
  unfold Oper.wp execOp
  simp only [ho, hp, hy, Sem.run_bind, Sem.run_pure, Result.andThen_ok, hr]
  exact hK _ _ (h _ (HB.put i v))
theorem putG_int {w x : World} {t : TypeId} {Z rcs cs : Array Value} {ops : Array Oper} {rest : List Oper} {o : Oper} {a : Act} {Q : Exit → Act → World → Prop} (hg : o.guard = none) (p y : Operand) (ho : o.op = .store 3 p y) (HB : BG w t Z rcs cs x) (i : Nat) (n : Int)
    (hp : a.eval p = .pointer (some ⟨w.heap.size + 2, i, none⟩)) (hy : a.eval y = .int .i64 n) (hi : i < 29)
    (h : ∀ x', BG w t Z rcs (cs.setIfInBounds i (.int .i64 n)) x' → wpList Tryd.prog ops Q rest (a.put o.dst undef) x') : wpList Tryd.prog ops Q (o :: rest) a x :=
  wpList_putG hg 3 p y ho HB i _ hp hy hi (fun u hc hf => st3 _ _ _ _ u hc hf) h
theorem putG_str {w x : World} {t : TypeId} {Z rcs cs : Array Value} {ops : Array Oper} {rest : List Oper} {o : Oper} {a : Act} {Q : Exit → Act → World → Prop} (hg : o.guard = none) (p y : Operand) (ho : o.op = .store 9 p y) (HB : BG w t Z rcs cs x) (i : Nat) (s : ByteArray)
    (hp : a.eval p = .pointer (some ⟨w.heap.size + 2, i, none⟩)) (hy : a.eval y = .string s) (hi : i < 29)
    (h : ∀ x', BG w t Z rcs (cs.setIfInBounds i (.string s)) x' → wpList Tryd.prog ops Q rest (a.put o.dst undef) x') : wpList Tryd.prog ops Q (o :: rest) a x :=
  wpList_putG hg 9 p y ho HB i _ hp hy hi (fun u hc hf => st9 _ _ _ _ u hc hf) h
theorem run_alloc71 (x : World) : (Instr.alloc 71 true (.tuple #[])).run Tryd.prog x = .ok (.pointer (some ⟨x.heap.size, 0, none⟩)) (x.alloc (.cells zbg 71)) := by
  go_simp
  rfl
theorem run_build71 (k i : Int) (c : Bool) (a : Option Addr) (n m : Nat) (x : World) : (Instr.build 71 #[(0, .int .i64 k), (1, .int .i64 i), (4, .bool c), (5, .slice a n m)]).run Tryd.prog x = .ok (.agg (gbc k i (fun _ => ⟨#[]⟩) (fun _ => 0) c (.slice a n m) (.slice none 0 0) (.slice none 0 0) (.slice none 0 0))) x := by
  refine run_build (P := Tryd.prog) x 71 _ _ ?_
  kernel_rfl
theorem bag_lit (k i : Int) (c : Bool) (v : Value) (x0 x1 : ByteArray) (m2 m3 m4 m5 m6 m8 m9 m10 m12 m13 m14 : Int) : ((((((((((((((gbc k i (fun _ => ⟨#[]⟩) (fun _ => 0) c v (.slice none 0 0) (.slice none 0 0) (.slice none 0 0)).setIfInBounds 2 (.string x0)).setIfInBounds 3 (.string x1)).setIfInBounds 6 (.int .i64 m2)).setIfInBounds 7 (.int .i64 m3)).setIfInBounds 8 (.int .i64 m4)).setIfInBounds 9 (.int .i64 m5)).setIfInBounds 10 (.int .i64 m6)).setIfInBounds 12 (.int .i64 m8)).setIfInBounds 13 (.int .i64 m9)).setIfInBounds 14 (.int .i64 m10)).setIfInBounds 16 (.int .i64 m12)).setIfInBounds 17 (.int .i64 m13)).setIfInBounds 18 (.int .i64 m14)) = gbc k i (fun f => if f = 0 then x0 else x1) (fun f => if f = 2 then m2 else if f = 3 then m3 else if f = 4 then m4 else if f = 5 then m5 else if f = 6 then m6 else if f = 8 then m8 else if f = 9 then m9 else if f = 10 then m10 else if f = 12 then m12 else if f = 13 then m13 else if f = 14 then m14 else 0) c v (.slice none 0 0) (.slice none 0 0) (.slice none 0 0) := by
  kernel_rfl
theorem gbc_ext {k i : Int} {T T' : Nat → ByteArray} {M M' : Nat → Int} {c : Bool} {s0 s1 s2 s3 : Value} (h1 : ∀ f, f < 2 → T f = T' f) (h2 : ∀ f, f < 20 → M f = M' f) : gbc k i T M c s0 s1 s2 s3 = gbc k i T' M' c s0 s1 s2 s3 := by
  unfold gbc gbl
  rw [show (List.range 2).map (fun f => Value.string (T f)) = (List.range 2).map (fun f => Value.string (T' f)) from List.map_congr_left (fun f hf => by rw [h1 f (by simpa using hf)]), show (List.range 20).map (fun f => Value.int .i64 (M f)) = (List.range 20).map (fun f => Value.int .i64 (M' f)) from List.map_congr_left (fun f hf => by rw [h2 f (by simpa using hf)])]
theorem bag_eq (k i : Int) (b : Bd) (c : Bool) (ra : Option Addr) (rc : Nat) (h : RqB b c) : ((((((((((((((gbc k i (fun _ => ⟨#[]⟩) (fun _ => 0) c (.slice ra (b 11).rs.length rc) (.slice none 0 0) (.slice none 0 0) (.slice none 0 0)).setIfInBounds 2 (.string (b 0).t)).setIfInBounds 3 (.string (b 1).t)).setIfInBounds 6 (.int .i64 (b 2).n)).setIfInBounds 7 (.int .i64 (b 3).n)).setIfInBounds 8 (.int .i64 (b 4).n)).setIfInBounds 9 (.int .i64 (b 5).n)).setIfInBounds 10 (.int .i64 (b 6).n)).setIfInBounds 12 (.int .i64 (b 8).n)).setIfInBounds 13 (.int .i64 (b 9).n)).setIfInBounds 14 (.int .i64 (b 10).n)).setIfInBounds 16 (.int .i64 (b 12).n)).setIfInBounds 17 (.int .i64 (b 13).n)).setIfInBounds 18 (.int .i64 (b 14).n)) = (gbc k i (fun f => (b f).t) (bn b) c (.slice ra (b 11).rs.length rc) (.slice none 0 0) (.slice none 0 0) (.slice none 0 0)) := by
  rw [bag_lit]
  obtain ⟨p0, p1, p11, p17, p18, p19, pt⟩ := h.v.parts
  have p15 : (b 15).n = 0 := by rw [h.z15]; rfl
  have p16 : (b 16).n = 0 := by rw [h.z16]; rfl
  refine gbc_ext (fun f hf => ?_) (fun f hf => ?_)
  · rcases (show f = 0 ∨ f = 1 by omega) with rfl | rfl <;> rfl
  · match f, hf with
    | 0, _ => exact p0.symm
    | 1, _ => exact p1.symm
    | 2, _ => rfl
    | 3, _ => rfl
    | 4, _ => rfl
    | 5, _ => rfl
    | 6, _ => rfl
    | 7, _ => rfl
    | 8, _ => rfl
    | 9, _ => rfl
    | 10, _ => rfl
    | 11, _ => exact p11.symm
    | 12, _ => rfl
    | 13, _ => rfl
    | 14, _ => rfl
    | 15, _ => exact p15.symm
    | 16, _ => exact p16.symm
    | 17, _ => exact p17.symm
    | 18, _ => exact p18.symm
    | 19, _ => exact p19.symm
    | n + 20, h => exact absurd h (by omega)
theorem BG.new (w : World) (t : TypeId) (rcs cs : Array Value) (h : cs.size = 29) : BG w t zbg rcs cs ((((w.alloc (.cells rcs t)).alloc (.cells zbg 71)).alloc (.cells zbg 71)).setRow (w.heap.size + 2) cs) := by
  have e1 : (w.alloc (.cells rcs t)).heap.size = w.heap.size + 1 := by simp
  have e2 : ((w.alloc (.cells rcs t)).alloc (.cells zbg 71)).heap.size = w.heap.size + 2 := by simp
  have b1 : Below w.heap.size w (w.alloc (.cells rcs t)) := below_box _
  have b2 : Below (w.heap.size + 1) (w.alloc (.cells rcs t)) ((w.alloc (.cells rcs t)).alloc (.cells zbg 71)) := by rw [← e1]; exact below_box _
  have b3 : Below (w.heap.size + 2) ((w.alloc (.cells rcs t)).alloc (.cells zbg 71)) (((w.alloc (.cells rcs t)).alloc (.cells zbg 71)).alloc (.cells zbg 71)) := by rw [← e2]; exact below_box _
  have h0 : (((w.alloc (.cells rcs t)).alloc (.cells zbg 71)).alloc (.cells zbg 71)).heap[w.heap.size]? = some (.cells rcs t (0, 0)) := by
    rw [b3.block _ (by omega), b2.block _ (by omega)]; exact heap_alloc_new w _
  have h1 : (((w.alloc (.cells rcs t)).alloc (.cells zbg 71)).alloc (.cells zbg 71)).heap[w.heap.size + 1]? = some (.cells zbg 71 (0, 0)) := by
    rw [b3.block _ (by omega)]
    have := heap_alloc_new (w.alloc (.cells rcs t)) (.cells zbg 71)
    rw [e1] at this; exact this
  have h2 : (((w.alloc (.cells rcs t)).alloc (.cells zbg 71)).alloc (.cells zbg 71)).heap[w.heap.size + 2]? = some (.cells zbg 71 (0, 0)) := by
    have := heap_alloc_new ((w.alloc (.cells rcs t)).alloc (.cells zbg 71)) (.cells zbg 71)
    rw [e2] at this; exact this
  refine ⟨?_, ?_, setRow_heap _ _ _ _ _ _ h2, h, below_setRow (b1.trans ((b2.mono (by omega)).trans (b3.mono (by omega)))) (by omega) _⟩
  · rw [setRow_other _ _ _ _ (by omega)]; exact h0
  · rw [setRow_other _ _ _ _ (by omega)]; exact h1
theorem wpList_allocZ {t : TypeId} {ZB : Array Value} {ops : Array Oper} {rest : List Oper} {o : Oper} {a : Act} {w : World} {Q : Exit → Act → World → Prop} (hz : ∀ x : World, (Instr.alloc t true (.tuple #[])).run Tryd.prog x = .ok (.pointer (some ⟨x.heap.size, 0, none⟩)) (x.alloc (.cells ZB t))) (hg : o.guard = none) (ho : o.op = .alloc t) (g : Nat) (hgz : w.heap.size = g)
    (h : wpList Tryd.prog ops Q rest (a.put o.dst (.pointer (some ⟨g, 0, none⟩))) (w.alloc (.cells ZB t))) : wpList Tryd.prog ops Q (o :: rest) a w := by
  subst hgz
  refine wpList_plain hg fun K hK => ?_
  unfold Oper.wp execOp
  simp only [ho, Sem.run_bind, Sem.run_pure, Result.andThen_ok, hz]
  exact hK _ _ h
theorem wpList_buildZ {t : TypeId} {CS : Array Value} {ops : Array Oper} {rest : List Oper} {o : Oper} {a : Act} {w : World} {Q : Exit → Act → World → Prop} {parts : Array (Nat × Operand)} {vs : Array (Nat × Value)} (hb : ∀ x : World, (Instr.build t vs).run Tryd.prog x = .ok (.agg CS) x) (hg : o.guard = none) (ho : o.op = .build t parts) (he : (parts.toList.map fun (i, x) => (i, a.eval x)) = vs.toList)
    (h : wpList Tryd.prog ops Q rest (a.put o.dst (.agg CS)) w) : wpList Tryd.prog ops Q (o :: rest) a w := by
  have he' : (parts.map fun (i, x) => (i, a.eval x)) = vs := by
    apply Array.ext'
    rw [Array.toList_map]
    exact he
  refine wpList_plain hg fun K hK => ?_
  unfold Oper.wp execOp
  simp only [ho, he', Sem.run_bind, Sem.run_pure, Result.andThen_ok, hb]
  exact hK _ _ h
set_option maxHeartbeats 400000 in
set_option maxRecDepth 100000 in
theorem bag_any (k i : Int) (b : Bd) (c : Bool) (ra : Option Addr) (rc : Nat) (h : RqB b c) (w : World) :
    Calls Tryd.prog 27 #[.agg (rqc k i b c ra rc)] w fun e w' => e = .returned (.agg (gbc k i (fun f => (b f).t) (bn b) c (.slice ra (b 11).rs.length rc) (.slice none 0 0) (.slice none 0 0) (.slice none 0 0))) ∧ Below w.heap.size w w' := by
  have KA : Hid (∀ x : World, (Instr.alloc 71 true (.tuple #[])).run Tryd.prog x = .ok (.pointer (some ⟨x.heap.size, 0, none⟩)) (x.alloc (.cells zbg 71))) := run_alloc71
  have KB : Hid (∀ x : World, (Instr.build 71 #[(0, .int .i64 k), (1, .int .i64 i), (4, .bool c), (5, .slice ra (b 11).rs.length rc)]).run Tryd.prog x = .ok (.agg (gbc k i (fun _ => ⟨#[]⟩) (fun _ => 0) c (.slice ra (b 11).rs.length rc) (.slice none 0 0) (.slice none 0 0) (.slice none 0 0))) x) := run_build71 k i c ra (b 11).rs.length rc
  have HQ : Hid (((((((((((((((gbc k i (fun _ => ⟨#[]⟩) (fun _ => 0) c (.slice ra (b 11).rs.length rc) (.slice none 0 0) (.slice none 0 0) (.slice none 0 0)).setIfInBounds 2 (.string (b 0).t)).setIfInBounds 3 (.string (b 1).t)).setIfInBounds 6 (.int .i64 (b 2).n)).setIfInBounds 7 (.int .i64 (b 3).n)).setIfInBounds 8 (.int .i64 (b 4).n)).setIfInBounds 9 (.int .i64 (b 5).n)).setIfInBounds 10 (.int .i64 (b 6).n)).setIfInBounds 12 (.int .i64 (b 8).n)).setIfInBounds 13 (.int .i64 (b 9).n)).setIfInBounds 14 (.int .i64 (b 10).n)).setIfInBounds 16 (.int .i64 (b 12).n)).setIfInBounds 17 (.int .i64 (b 13).n)).setIfInBounds 18 (.int .i64 (b 14).n)) = (gbc k i (fun f => (b f).t) (bn b) c (.slice ra (b 11).rs.length rc) (.slice none 0 0) (.slice none 0 0) (.slice none 0 0))) := bag_eq k i b c ra rc h
  have HG1 : Hid ((gbc k i (fun _ => ⟨#[]⟩) (fun _ => 0) c (.slice ra (b 11).rs.length rc) (.slice none 0 0) (.slice none 0 0) (.slice none 0 0)).size = 29) := gbc_size _ _ _ _ _ _ _ _ _
  have HG2 : Hid ((gbc k i (fun _ => ⟨#[]⟩) (fun _ => 0) c (.slice ra (b 11).rs.length rc) (.slice none 0 0) (.slice none 0 0) (.slice none 0 0)).all (·.oneCell') = true) := gbc_one _ _ _ _ _ _ _ _ _ _ _ _ _ _ _ _ _
  have HF1 : Hid ((gbc k i (fun f => (b f).t) (bn b) c (.slice ra (b 11).rs.length rc) (.slice none 0 0) (.slice none 0 0) (.slice none 0 0)).size = 29) := gbc_size _ _ _ _ _ _ _ _ _
  have HF2 : Hid ((gbc k i (fun f => (b f).t) (bn b) c (.slice ra (b 11).rs.length rc) (.slice none 0 0) (.slice none 0 0) (.slice none 0 0)).all (·.oneCell') = true) := gbc_one _ _ _ _ _ _ _ _ _ _ _ _ _ _ _ _ _
  have HX0 : Hid (((w.alloc (.cells (rqc k i b c ra rc) 26)).alloc (.cells zbg 71)).heap[w.heap.size]? = some (.cells (rqc k i b c ra rc) 26 (0, 0))) := (two_boxes w (rqc k i b c ra rc) zbg 26 71).1
  have HN : Hid (BG w 26 zbg (rqc k i b c ra rc) (gbc k i (fun _ => ⟨#[]⟩) (fun _ => 0) c (.slice ra (b 11).rs.length rc) (.slice none 0 0) (.slice none 0 0) (.slice none 0 0)) ((((w.alloc (.cells (rqc k i b c ra rc) 26)).alloc (.cells zbg 71)).alloc (.cells zbg 71)).setRow (w.heap.size + 2) (gbc k i (fun _ => ⟨#[]⟩) (fun _ => 0) c (.slice ra (b 11).rs.length rc) (.slice none 0 0) (.slice none 0 0) (.slice none 0 0)))) := BG.new w 26 _ _ (gbc_size _ _ _ _ _ _ _ _ _)
  have HZ : Hid ((((w.alloc (.cells (rqc k i b c ra rc) 26)).alloc (.cells zbg 71)).alloc (.cells zbg 71)).heap[w.heap.size + 2]? = some (.cells zbg 71 (0, 0))) := by
    have q := heap_alloc_new ((w.alloc (.cells (rqc k i b c ra rc) 26)).alloc (.cells zbg 71)) (.cells zbg 71)
    rw [show ((w.alloc (.cells (rqc k i b c ra rc) 26)).alloc (.cells zbg 71)).heap.size = w.heap.size + 2 by simp] at q
    exact q
  obtain ⟨c0, c1, c2, c3, c4, c5, c6, c7, c8, c9, c10, c11, c12, c13, c14, c15, c16, c17⟩ := rq_box HX0.out
  clear h HX0
  have tokA : True := trivial
  generalize (gbc k i (fun _ => ⟨#[]⟩) (fun _ => 0) c (.slice ra (b 11).rs.length rc) (.slice none 0 0) (.slice none 0 0) (.slice none 0 0)) = CS0 at *
  generalize (gbc k i (fun f => (b f).t) (bn b) c (.slice ra (b 11).rs.length rc) (.slice none 0 0) (.slice none 0 0) (.slice none 0 0)) = CSF at *
  have HZS : Hid (zbg.size = 29) := gbc_size _ _ _ _ _ _ _ _ _
  generalize zbg = ZB at *
  go_enter Tryd.func27, Tryd.ntmps27
  go_wp2_with (first
    | (have _h := tokA; refine wpList_allocZ KA.out rfl rfl (w.heap.size + 1) (by simp) ?_; clear _h tokA; have tokB : True := trivial; simp only [Act.put, List.setIfInBounds_toArray, List.set_cons_zero, List.set_cons_succ])
    | (have _h := tokB; refine wpList_allocZ KA.out rfl rfl (w.heap.size + 2) (by simp) ?_; clear _h tokB; have tok1 : True := trivial; simp only [Act.put, List.setIfInBounds_toArray, List.set_cons_zero, List.set_cons_succ])
    | (refine wpList_buildZ (parts := #[(0, .tmp 5), (1, .tmp 7), (4, .tmp 10), (5, .tmp 12)]) KB.out rfl rfl (by rfl) ?_; simp only [Act.put, List.setIfInBounds_toArray, List.set_cons_zero, List.set_cons_succ])
    | (have _h := tok1; refine wpList_store_row rfl 71 _ _ rfl (w.heap.size + 2) CS0 rfl rfl 71 ZB (by exact HZ.out) (by rw [HG1.out]; exact Tryd.info71) (by rw [HG1.out]; exact HZS.out) HG2.out ?_; have HB : Hid _ := HN.out; clear c0 c1 c2 c3 c4 c5 c6 c7 c8 c9 c10 c11 c12 c13 c14 c15 c16 c17; generalize World.setRow _ (w.heap.size + 2) CS0 = x1 at *; obtain ⟨c0, c1, c2, c3, c4, c5, c6, c7, c8, c9, c10, c11, c12, c13, c14, c15, c16, c17⟩ := rq_box HB.out.r; clear _h tok1 HN)
    | (refine putG_int rfl _ _ rfl HB.out _ _ rfl rfl (by decide) ?_; intro x' hx'; clear c0 c1 c2 c3 c4 c5 c6 c7 c8 c9 c10 c11 c12 c13 c14 c15 c16 c17; clear HB; have HB : Hid (BG w 26 ZB (rqc k i b c ra rc) _ x') := hx'; clear hx'; obtain ⟨c0, c1, c2, c3, c4, c5, c6, c7, c8, c9, c10, c11, c12, c13, c14, c15, c16, c17⟩ := rq_box HB.out.r)
    | (refine putG_str rfl _ _ rfl HB.out _ _ rfl rfl (by decide) ?_; intro x' hx'; clear c0 c1 c2 c3 c4 c5 c6 c7 c8 c9 c10 c11 c12 c13 c14 c15 c16 c17; clear HB; have HB : Hid (BG w 26 ZB (rqc k i b c ra rc) _ x') := hx'; clear hx'; obtain ⟨c0, c1, c2, c3, c4, c5, c6, c7, c8, c9, c10, c11, c12, c13, c14, c15, c16, c17⟩ := rq_box HB.out.r)
    | (refine wpList_load_row rfl 71 _ rfl (w.heap.size + 2) rfl 71 CSF (0, 0) _ (by have q := HB.out.b; rw [HQ.out] at q; exact q) Tryd.underlying71 rfl (by rw [HF1.out]; exact Tryd.info71) ?_; clear c0 c1 c2 c3 c4 c5 c6 c7 c8 c9 c10 c11 c12 c13 c14 c15 c16 c17)
    | (refine wpList_store_row rfl 71 _ _ rfl (w.heap.size + 1) CSF rfl rfl 71 ZB (by exact HB.out.o) (by rw [HF1.out]; exact Tryd.info71) (by rw [HF1.out]; exact HZS.out) HF2.out ?_))
  refine bodyPost_ret (results_cell_row rfl _ _ (w.heap.size + 1) 71 CSF (0, 0) _ rfl (setRow_heap _ _ _ _ _ _ HB.out.o) Tryd.underlying71 rfl (by rw [HF1.out]; exact Tryd.info71)) rfl ?_
  exact ⟨rfl, below_setRow HB.out.bel (by omega) _⟩
end Go.Proofs.YtaooidckmepdeaaDoor
