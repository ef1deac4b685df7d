/- Requests and responses, and their bodies, in memory. -/
import Derived.Test.YtaooidckmepdeaaDoorKh
import Derived.Laws.ResultCell
namespace Go.Proofs.YtaooidckmepdeaaDoor
set_option linter.unusedSimpArgs false
set_option linter.unusedVariables false
open Go.RowKit
/-- A request as a value, a response as one. -/
def rqc (k i : Int) (b : Bd) (c : Bool) (ra : Option Addr) (rc : Nat) : Array Value := #[.int .i64 k, .int .i64 i, .string (b 0).t, .int .i64 (b 2).n, .int .i64 (b 3).n, .int .i64 (b 4).n, .int .i64 (b 5).n, .int .i64 (b 6).n, .bool c, .int .i64 (b 8).n, .int .i64 (b 9).n, .int .i64 (b 10).n, .slice ra (b 11).rs.length rc, .int .i64 (b 12).n, .int .i64 (b 13).n, .int .i64 (b 14).n, .string (b 1).t]
def rsc (k i d : Int) (b : Bd) (p : Pt) : Array Value := #[.int .i64 k, .int .i64 i, .int .i64 d, .int .i64 (b 12).n, .int .i64 (b 15).n, .int .i64 (b 16).n, .slice p.na (b 17).nm.length p.nc, .slice p.ca (b 18).ct.length p.cc, .slice p.ba p.bs.length p.bc]
def zbd : Array Value := (List.replicate 20 (Value.int .i64 0) ++ (List.replicate 20 (Value.string ⟨#[]⟩) ++ [Value.slice none 0 0, Value.slice none 0 0, Value.slice none 0 0, Value.slice none 0 0])).toArray
/-- The one that is read in block B, the body in the next. -/
structure BB (w : World) (t : TypeId) (rcs cs : Array Value) (x : World) : Prop where
  r : x.heap[w.heap.size]? = some (.cells rcs t (0, 0))
  b : x.heap[w.heap.size + 1]? = some (.cells cs 66 (0, 0))
  sz : cs.size = 44
  bel : Below w.heap.size w x
theorem BB.new (w : World) (t : TypeId) (rcs cs : Array Value) (h : cs.size = 44) : BB w t rcs cs ((w.alloc (.cells rcs t)).alloc (.cells cs 66)) := by
  refine ⟨?_, ?_, h, (below_box _).trans ((below_box _).mono (by simp))⟩
  · rw [(below_box (w := w.alloc (.cells rcs t)) (.cells cs 66)).block w.heap.size (by simp)]
    exact heap_alloc_new w _
  · have q := heap_alloc_new (w.alloc (.cells rcs t)) (.cells cs 66)
    rw [show (w.alloc (.cells rcs t)).heap.size = w.heap.size + 1 by simp] at q
    exact q
theorem BB.put {w x : World} {t : TypeId} {rcs cs : Array Value} (h : BB w t rcs cs x) (i : Nat) (v : Value) : BB w t rcs (cs.setIfInBounds i v) (x.setCell ⟨w.heap.size + 1, i, none⟩ v) := by
  refine ⟨?_, ?_, by simpa using h.sz, h.bel.setCell (p := ⟨w.heap.size + 1, i, none⟩) (by simp) _⟩
  · rw [heap_setCell_other x ⟨w.heap.size + 1, i, none⟩ w.heap.size v (by simp)]
    exact h.r
  · rw [setCell_heap h.b]
theorem wpList_putB {w x : World} {t : TypeId} {rcs cs : Array Value} {ops : Array Oper} {rest : List Oper} {o : Oper} {a : Act} {Q : Exit → Act → World → Prop} (hg : o.guard = none) (ty : TypeId) (p y : Operand) (ho : o.op = .store ty p y) (HB : BB w t rcs cs x) (i : Nat) (v : Value)
    (hp : a.eval p = .pointer (some ⟨w.heap.size + 1, i, none⟩)) (hy : a.eval y = v) (hi : i < 44)
    (hst : ∀ u, x.cell? ⟨w.heap.size + 1, i, none⟩ = some u → x.frozen? ⟨w.heap.size + 1, i, none⟩ = false → (Instr.storeAt ty (.pointer (some ⟨w.heap.size + 1, i, none⟩)) v).run Tryd.prog x = .ok () (x.setCell ⟨w.heap.size + 1, i, none⟩ v))
    (h : ∀ x', BB w t rcs (cs.setIfInBounds i v) x' → wpList Tryd.prog ops Q rest (a.put o.dst undef) x') : wpList Tryd.prog ops Q (o :: rest) a x := by
  refine wpList_plain hg fun K hK => ?_
  have hc : x.cell? ⟨w.heap.size + 1, i, none⟩ = some (cs[i]'(by rw [HB.sz]; exact hi)) := by
    rw [(box_at HB.b i).1, Array.getElem?_eq_getElem (by rw [HB.sz]; exact hi)]
  have hr := hst _ hc (box_at HB.b i).2
  unfold Oper.wp execOp
  simp only [ho, hp, hy, Sem.run_bind, Sem.run_pure, Result.andThen_ok, hr]
  exact hK _ _ (h _ (HB.put i v))
theorem st3 (B i : Nat) (n : Int) (x : World) (u : Value) (hc : x.cell? ⟨B, i, none⟩ = some u) (hf : x.frozen? ⟨B, i, none⟩ = false) : (Instr.storeAt 3 (.pointer (some ⟨B, i, none⟩)) (.int .i64 n)).run Tryd.prog x = .ok () (x.setCell ⟨B, i, none⟩ (.int .i64 n)) := by
  go_simp
theorem st9 (B i : Nat) (s : ByteArray) (x : World) (u : Value) (hc : x.cell? ⟨B, i, none⟩ = some u) (hf : x.frozen? ⟨B, i, none⟩ = false) : (Instr.storeAt 9 (.pointer (some ⟨B, i, none⟩)) (.string s)).run Tryd.prog x = .ok () (x.setCell ⟨B, i, none⟩ (.string s)) := by
  go_simp
theorem st24 (B i : Nat) (a : Option Addr) (n c : Nat) (x : World) (u : Value) (hc : x.cell? ⟨B, i, none⟩ = some u) (hf : x.frozen? ⟨B, i, none⟩ = false) : (Instr.storeAt 24 (.pointer (some ⟨B, i, none⟩)) (.slice a n c)).run Tryd.prog x = .ok () (x.setCell ⟨B, i, none⟩ (.slice a n c)) := by
  go_simp
theorem st36 (B i : Nat) (a : Option Addr) (n c : Nat) (x : World) (u : Value) (hc : x.cell? ⟨B, i, none⟩ = some u) (hf : x.frozen? ⟨B, i, none⟩ = false) : (Instr.storeAt 36 (.pointer (some ⟨B, i, none⟩)) (.slice a n c)).run Tryd.prog x = .ok () (x.setCell ⟨B, i, none⟩ (.slice a n c)) := by
  go_simp
theorem st37 (B i : Nat) (a : Option Addr) (n c : Nat) (x : World) (u : Value) (hc : x.cell? ⟨B, i, none⟩ = some u) (hf : x.frozen? ⟨B, i, none⟩ = false) : (Instr.storeAt 37 (.pointer (some ⟨B, i, none⟩)) (.slice a n c)).run Tryd.prog x = .ok () (x.setCell ⟨B, i, none⟩ (.slice a n c)) := by
  go_simp
theorem st38 (B i : Nat) (a : Option Addr) (n c : Nat) (x : World) (u : Value) (hc : x.cell? ⟨B, i, none⟩ = some u) (hf : x.frozen? ⟨B, i, none⟩ = false) : (Instr.storeAt 38 (.pointer (some ⟨B, i, none⟩)) (.slice a n c)).run Tryd.prog x = .ok () (x.setCell ⟨B, i, none⟩ (.slice a n c)) := by
  go_simp
theorem put_int {w x : World} {t : TypeId} {rcs cs : Array Value} {ops : Array Oper} {rest : List Oper} {o : Oper} {a : Act} {Q : Exit → Act → World → Prop} (hg : o.guard = none) (p y : Operand) (ho : o.op = .store 3 p y) (HB : BB w t rcs cs x) (i : Nat) (n : Int)
    (hp : a.eval p = .pointer (some ⟨w.heap.size + 1, i, none⟩)) (hy : a.eval y = .int .i64 n) (hi : i < 44)
    (h : ∀ x', BB w t rcs (cs.setIfInBounds i (.int .i64 n)) x' → wpList Tryd.prog ops Q rest (a.put o.dst undef) x') : wpList Tryd.prog ops Q (o :: rest) a x :=
  wpList_putB hg 3 p y ho HB i _ hp hy hi (fun u hc hf => st3 _ _ _ _ u hc hf) h
theorem put_str {w x : World} {t : TypeId} {rcs cs : Array Value} {ops : Array Oper} {rest : List Oper} {o : Oper} {a : Act} {Q : Exit → Act → World → Prop} (hg : o.guard = none) (p y : Operand) (ho : o.op = .store 9 p y) (HB : BB w t rcs cs x) (i : Nat) (s : ByteArray)
    (hp : a.eval p = .pointer (some ⟨w.heap.size + 1, i, none⟩)) (hy : a.eval y = .string s) (hi : i < 44)
    (h : ∀ x', BB w t rcs (cs.setIfInBounds i (.string s)) x' → wpList Tryd.prog ops Q rest (a.put o.dst undef) x') : wpList Tryd.prog ops Q (o :: rest) a x :=
  wpList_putB hg 9 p y ho HB i _ hp hy hi (fun u hc hf => st9 _ _ _ _ u hc hf) h
theorem put_sl24 {w x : World} {t : TypeId} {rcs cs : Array Value} {ops : Array Oper} {rest : List Oper} {o : Oper} {a : Act} {Q : Exit → Act → World → Prop} (hg : o.guard = none) (p y : Operand) (ho : o.op = .store 24 p y) (HB : BB w t rcs cs x) (i : Nat) (ad : Option Addr) (n c : Nat)
    (hp : a.eval p = .pointer (some ⟨w.heap.size + 1, i, none⟩)) (hy : a.eval y = .slice ad n c) (hi : i < 44)
    (h : ∀ x', BB w t rcs (cs.setIfInBounds i (.slice ad n c)) x' → wpList Tryd.prog ops Q rest (a.put o.dst undef) x') : wpList Tryd.prog ops Q (o :: rest) a x :=
  wpList_putB hg 24 p y ho HB i _ hp hy hi (fun u hc hf => st24 _ _ _ _ _ _ u hc hf) h
theorem put_sl36 {w x : World} {t : TypeId} {rcs cs : Array Value} {ops : Array Oper} {rest : List Oper} {o : Oper} {a : Act} {Q : Exit → Act → World → Prop} (hg : o.guard = none) (p y : Operand) (ho : o.op = .store 36 p y) (HB : BB w t rcs cs x) (i : Nat) (ad : Option Addr) (n c : Nat)
    (hp : a.eval p = .pointer (some ⟨w.heap.size + 1, i, none⟩)) (hy : a.eval y = .slice ad n c) (hi : i < 44)
    (h : ∀ x', BB w t rcs (cs.setIfInBounds i (.slice ad n c)) x' → wpList Tryd.prog ops Q rest (a.put o.dst undef) x') : wpList Tryd.prog ops Q (o :: rest) a x :=
  wpList_putB hg 36 p y ho HB i _ hp hy hi (fun u hc hf => st36 _ _ _ _ _ _ u hc hf) h
theorem put_sl37 {w x : World} {t : TypeId} {rcs cs : Array Value} {ops : Array Oper} {rest : List Oper} {o : Oper} {a : Act} {Q : Exit → Act → World → Prop} (hg : o.guard = none) (p y : Operand) (ho : o.op = .store 37 p y) (HB : BB w t rcs cs x) (i : Nat) (ad : Option Addr) (n c : Nat)
    (hp : a.eval p = .pointer (some ⟨w.heap.size + 1, i, none⟩)) (hy : a.eval y = .slice ad n c) (hi : i < 44)
    (h : ∀ x', BB w t rcs (cs.setIfInBounds i (.slice ad n c)) x' → wpList Tryd.prog ops Q rest (a.put o.dst undef) x') : wpList Tryd.prog ops Q (o :: rest) a x :=
  wpList_putB hg 37 p y ho HB i _ hp hy hi (fun u hc hf => st37 _ _ _ _ _ _ u hc hf) h
theorem put_sl38 {w x : World} {t : TypeId} {rcs cs : Array Value} {ops : Array Oper} {rest : List Oper} {o : Oper} {a : Act} {Q : Exit → Act → World → Prop} (hg : o.guard = none) (p y : Operand) (ho : o.op = .store 38 p y) (HB : BB w t rcs cs x) (i : Nat) (ad : Option Addr) (n c : Nat)
    (hp : a.eval p = .pointer (some ⟨w.heap.size + 1, i, none⟩)) (hy : a.eval y = .slice ad n c) (hi : i < 44)
    (h : ∀ x', BB w t rcs (cs.setIfInBounds i (.slice ad n c)) x' → wpList Tryd.prog ops Q rest (a.put o.dst undef) x') : wpList Tryd.prog ops Q (o :: rest) a x :=
  wpList_putB hg 38 p y ho HB i _ hp hy hi (fun u hc hf => st38 _ _ _ _ _ _ u hc hf) h
theorem rq_box {x : World} {g : Nat} {k i : Int} {b : Bd} {c : Bool} {ra : Option Addr} {rc : Nat} (h : x.heap[g]? = some (.cells (rqc k i b c ra rc) 26 (0, 0))) : x.cell? ⟨g, 0, none⟩ = some (.int .i64 k) ∧ x.cell? ⟨g, 1, none⟩ = some (.int .i64 i) ∧ x.cell? ⟨g, 2, none⟩ = some (.string (b 0).t) ∧ x.cell? ⟨g, 3, none⟩ = some (.int .i64 (b 2).n) ∧ x.cell? ⟨g, 4, none⟩ = some (.int .i64 (b 3).n) ∧ x.cell? ⟨g, 5, none⟩ = some (.int .i64 (b 4).n) ∧ x.cell? ⟨g, 6, none⟩ = some (.int .i64 (b 5).n) ∧ x.cell? ⟨g, 7, none⟩ = some (.int .i64 (b 6).n) ∧ x.cell? ⟨g, 8, none⟩ = some (.bool c) ∧ x.cell? ⟨g, 9, none⟩ = some (.int .i64 (b 8).n) ∧ x.cell? ⟨g, 10, none⟩ = some (.int .i64 (b 9).n) ∧ x.cell? ⟨g, 11, none⟩ = some (.int .i64 (b 10).n) ∧ x.cell? ⟨g, 12, none⟩ = some (.slice ra (b 11).rs.length rc) ∧ x.cell? ⟨g, 13, none⟩ = some (.int .i64 (b 12).n) ∧ x.cell? ⟨g, 14, none⟩ = some (.int .i64 (b 13).n) ∧ x.cell? ⟨g, 15, none⟩ = some (.int .i64 (b 14).n) ∧ x.cell? ⟨g, 16, none⟩ = some (.string (b 1).t) ∧ g < x.heap.size :=
  ⟨(box_at h 0).1, (box_at h 1).1, (box_at h 2).1, (box_at h 3).1, (box_at h 4).1, (box_at h 5).1, (box_at h 6).1, (box_at h 7).1, (box_at h 8).1, (box_at h 9).1, (box_at h 10).1, (box_at h 11).1, (box_at h 12).1, (box_at h 13).1, (box_at h 14).1, (box_at h 15).1, (box_at h 16).1, (Array.getElem?_eq_some_iff.1 h).1⟩
theorem rs_box {x : World} {g : Nat} {k i d : Int} {b : Bd} {p : Pt} (h : x.heap[g]? = some (.cells (rsc k i d b p) 40 (0, 0))) : x.cell? ⟨g, 0, none⟩ = some (.int .i64 k) ∧ x.cell? ⟨g, 1, none⟩ = some (.int .i64 i) ∧ x.cell? ⟨g, 2, none⟩ = some (.int .i64 d) ∧ x.cell? ⟨g, 3, none⟩ = some (.int .i64 (b 12).n) ∧ x.cell? ⟨g, 4, none⟩ = some (.int .i64 (b 15).n) ∧ x.cell? ⟨g, 5, none⟩ = some (.int .i64 (b 16).n) ∧ x.cell? ⟨g, 6, none⟩ = some (.slice p.na (b 17).nm.length p.nc) ∧ x.cell? ⟨g, 7, none⟩ = some (.slice p.ca (b 18).ct.length p.cc) ∧ x.cell? ⟨g, 8, none⟩ = some (.slice p.ba p.bs.length p.bc) ∧ g < x.heap.size :=
  ⟨(box_at h 0).1, (box_at h 1).1, (box_at h 2).1, (box_at h 3).1, (box_at h 4).1, (box_at h 5).1, (box_at h 6).1, (box_at h 7).1, (box_at h 8).1, (Array.getElem?_eq_some_iff.1 h).1⟩
def ptR (ra : Option Addr) (rc : Nat) : Pt := ⟨ra, rc, none, 0, none, 0, none, 0, []⟩
def bit (c : Bool) : Int := if c then 1 else 0
/-- The fields that a request has. -/
structure RqB (b : Bd) (c : Bool) : Prop where
  v : VB b
  c7 : (b 7).n = bit c
  z15 : b 15 = fz
  z16 : b 16 = fz
  z17 : b 17 = fz
  z18 : b 18 = fz
  z19 : b 19 = fz
theorem VB.parts {b : Bd} (h : VB b) : (b 0).n = 0 ∧ (b 1).n = 0 ∧ (b 11).n = 0 ∧ (b 17).n = 0 ∧ (b 18).n = 0 ∧ (b 19).n = 0 ∧ ∀ f, 2 ≤ f → (b f).t = ⟨#[]⟩ := by
  have h0 : b 0 = vt (b 0).t := h.1 0 (by decide)
  have h1 : b 1 = vt (b 1).t := h.1 1 (by decide)
  have h11 : b 11 = vr' (b 11).rs := (h.1 11 (by decide)).1
  have h17 : b 17 = vm (b 17).nm := h.1 17 (by decide)
  have h18 : b 18 = vc (b 18).ct := (h.1 18 (by decide)).1
  have h19 : b 19 = vb (b 19).bs := (h.1 19 (by decide)).1
  refine ⟨by rw [h0]; rfl, by rw [h1]; rfl, by rw [h11]; rfl, by rw [h17]; rfl, by rw [h18]; rfl, by rw [h19]; rfl, fun f hf => ?_⟩
  by_cases h20 : f < 20
  · have hv := h.1 f h20
    rcases kd_cases f with e | e | e | e | e | e | e
    · rw [e] at hv; have q : b f = vn (b f).n := hv.1; rw [q]; rfl
    · rw [e] at hv; have q : b f = vn (b f).n := hv.1; rw [q]; rfl
    · unfold kd at e; grind
    · rw [e] at hv; have q : b f = vr' (b f).rs := hv.1; rw [q]; rfl
    · rw [e] at hv; have q : b f = vm (b f).nm := hv; rw [q]; rfl
    · rw [e] at hv; have q : b f = vc (b f).ct := hv.1; rw [q]; rfl
    · rw [e] at hv; have q : b f = vb (b f).bs := hv.1; rw [q]; rfl
  · rw [h.2 f (by omega)]; rfl
theorem bdc_lit (b : Bd) (p : Pt) : bdc b p = ([Value.int .i64 (b 0).n, Value.int .i64 (b 1).n, Value.int .i64 (b 2).n, Value.int .i64 (b 3).n, Value.int .i64 (b 4).n, Value.int .i64 (b 5).n, Value.int .i64 (b 6).n, Value.int .i64 (b 7).n, Value.int .i64 (b 8).n, Value.int .i64 (b 9).n, Value.int .i64 (b 10).n, Value.int .i64 (b 11).n, Value.int .i64 (b 12).n, Value.int .i64 (b 13).n, Value.int .i64 (b 14).n, Value.int .i64 (b 15).n, Value.int .i64 (b 16).n, Value.int .i64 (b 17).n, Value.int .i64 (b 18).n, Value.int .i64 (b 19).n] ++ ([Value.string (b 0).t, Value.string (b 1).t, Value.string (b 2).t, Value.string (b 3).t, Value.string (b 4).t, Value.string (b 5).t, Value.string (b 6).t, Value.string (b 7).t, Value.string (b 8).t, Value.string (b 9).t, Value.string (b 10).t, Value.string (b 11).t, Value.string (b 12).t, Value.string (b 13).t, Value.string (b 14).t, Value.string (b 15).t, Value.string (b 16).t, Value.string (b 17).t, Value.string (b 18).t, Value.string (b 19).t] ++ [Value.slice p.ra (b 11).rs.length p.rc, Value.slice p.na (b 17).nm.length p.nc, Value.slice p.ca (b 18).ct.length p.cc, Value.slice p.ba p.bs.length p.bc])).toArray := rfl
theorem bql_true (t0 t1 : ByteArray) (n2 n3 n4 n5 n6 n8 n9 n10 n12 n13 n14 : Int) (ra : Option Addr) (L rc : Nat) : (((((((((((((((zbd).setIfInBounds 20 (.string t0)).setIfInBounds 21 (.string t1)).setIfInBounds 2 (.int .i64 n2)).setIfInBounds 3 (.int .i64 n3)).setIfInBounds 4 (.int .i64 n4)).setIfInBounds 5 (.int .i64 n5)).setIfInBounds 6 (.int .i64 n6)).setIfInBounds 7 (.int .i64 1)).setIfInBounds 8 (.int .i64 n8)).setIfInBounds 9 (.int .i64 n9)).setIfInBounds 10 (.int .i64 n10)).setIfInBounds 12 (.int .i64 n12)).setIfInBounds 13 (.int .i64 n13)).setIfInBounds 14 (.int .i64 n14)).setIfInBounds 40 (.slice ra L rc) = ([Value.int .i64 0, Value.int .i64 0, Value.int .i64 n2, Value.int .i64 n3, Value.int .i64 n4, Value.int .i64 n5, Value.int .i64 n6, Value.int .i64 1, Value.int .i64 n8, Value.int .i64 n9, Value.int .i64 n10, Value.int .i64 0, Value.int .i64 n12, Value.int .i64 n13, Value.int .i64 n14, Value.int .i64 0, Value.int .i64 0, Value.int .i64 0, Value.int .i64 0, Value.int .i64 0] ++ ([Value.string t0, Value.string t1, Value.string ⟨#[]⟩, Value.string ⟨#[]⟩, Value.string ⟨#[]⟩, Value.string ⟨#[]⟩, Value.string ⟨#[]⟩, Value.string ⟨#[]⟩, Value.string ⟨#[]⟩, Value.string ⟨#[]⟩, Value.string ⟨#[]⟩, Value.string ⟨#[]⟩, Value.string ⟨#[]⟩, Value.string ⟨#[]⟩, Value.string ⟨#[]⟩, Value.string ⟨#[]⟩, Value.string ⟨#[]⟩, Value.string ⟨#[]⟩, Value.string ⟨#[]⟩, Value.string ⟨#[]⟩] ++ [Value.slice ra L rc, Value.slice none ([] : List ByteArray).length 0, Value.slice none ([] : List Int).length 0, Value.slice none ([] : List Bs).length 0])).toArray := by
  kernel_rfl
theorem bq_true (b : Bd) (ra : Option Addr) (rc : Nat) (h : RqB b true) : (((((((((((((((zbd).setIfInBounds 20 (.string (b 0).t)).setIfInBounds 21 (.string (b 1).t)).setIfInBounds 2 (.int .i64 (b 2).n)).setIfInBounds 3 (.int .i64 (b 3).n)).setIfInBounds 4 (.int .i64 (b 4).n)).setIfInBounds 5 (.int .i64 (b 5).n)).setIfInBounds 6 (.int .i64 (b 6).n)).setIfInBounds 7 (.int .i64 1)).setIfInBounds 8 (.int .i64 (b 8).n)).setIfInBounds 9 (.int .i64 (b 9).n)).setIfInBounds 10 (.int .i64 (b 10).n)).setIfInBounds 12 (.int .i64 (b 12).n)).setIfInBounds 13 (.int .i64 (b 13).n)).setIfInBounds 14 (.int .i64 (b 14).n)).setIfInBounds 40 (.slice ra (b 11).rs.length rc) = bdc b (ptR ra rc) := by
  obtain ⟨p0, p1, p11, p17, p18, p19, pt⟩ := h.v.parts
  have p15 : (b 15).n = 0 := by rw [h.z15]; rfl
  have p16 : (b 16).n = 0 := by rw [h.z16]; rfl
  have q17 : (b 17).nm = [] := by rw [h.z17]; rfl
  have q18 : (b 18).ct = [] := by rw [h.z18]; rfl
  have p7 : (b 7).n = 1 := h.c7
  rw [bdc_lit, p0, p1, p7, p11, p15, p16, p17, p18, p19, q17, q18, pt 2 (by omega), pt 3 (by omega), pt 4 (by omega), pt 5 (by omega), pt 6 (by omega), pt 7 (by omega), pt 8 (by omega), pt 9 (by omega), pt 10 (by omega), pt 11 (by omega), pt 12 (by omega), pt 13 (by omega), pt 14 (by omega), pt 15 (by omega), pt 16 (by omega), pt 17 (by omega), pt 18 (by omega), pt 19 (by omega)]
  exact bql_true _ _ _ _ _ _ _ _ _ _ _ _ _ _ _ _
theorem bql_false (t0 t1 : ByteArray) (n2 n3 n4 n5 n6 n8 n9 n10 n12 n13 n14 : Int) (ra : Option Addr) (L rc : Nat) : ((((((((((((((zbd).setIfInBounds 20 (.string t0)).setIfInBounds 21 (.string t1)).setIfInBounds 2 (.int .i64 n2)).setIfInBounds 3 (.int .i64 n3)).setIfInBounds 4 (.int .i64 n4)).setIfInBounds 5 (.int .i64 n5)).setIfInBounds 6 (.int .i64 n6)).setIfInBounds 8 (.int .i64 n8)).setIfInBounds 9 (.int .i64 n9)).setIfInBounds 10 (.int .i64 n10)).setIfInBounds 12 (.int .i64 n12)).setIfInBounds 13 (.int .i64 n13)).setIfInBounds 14 (.int .i64 n14)).setIfInBounds 40 (.slice ra L rc) = ([Value.int .i64 0, Value.int .i64 0, Value.int .i64 n2, Value.int .i64 n3, Value.int .i64 n4, Value.int .i64 n5, Value.int .i64 n6, Value.int .i64 0, Value.int .i64 n8, Value.int .i64 n9, Value.int .i64 n10, Value.int .i64 0, Value.int .i64 n12, Value.int .i64 n13, Value.int .i64 n14, Value.int .i64 0, Value.int .i64 0, Value.int .i64 0, Value.int .i64 0, Value.int .i64 0] ++ ([Value.string t0, Value.string t1, Value.string ⟨#[]⟩, Value.string ⟨#[]⟩, Value.string ⟨#[]⟩, Value.string ⟨#[]⟩, Value.string ⟨#[]⟩, Value.string ⟨#[]⟩, Value.string ⟨#[]⟩, Value.string ⟨#[]⟩, Value.string ⟨#[]⟩, Value.string ⟨#[]⟩, Value.string ⟨#[]⟩, Value.string ⟨#[]⟩, Value.string ⟨#[]⟩, Value.string ⟨#[]⟩, Value.string ⟨#[]⟩, Value.string ⟨#[]⟩, Value.string ⟨#[]⟩, Value.string ⟨#[]⟩] ++ [Value.slice ra L rc, Value.slice none ([] : List ByteArray).length 0, Value.slice none ([] : List Int).length 0, Value.slice none ([] : List Bs).length 0])).toArray := by
  kernel_rfl
theorem bq_false (b : Bd) (ra : Option Addr) (rc : Nat) (h : RqB b false) : ((((((((((((((zbd).setIfInBounds 20 (.string (b 0).t)).setIfInBounds 21 (.string (b 1).t)).setIfInBounds 2 (.int .i64 (b 2).n)).setIfInBounds 3 (.int .i64 (b 3).n)).setIfInBounds 4 (.int .i64 (b 4).n)).setIfInBounds 5 (.int .i64 (b 5).n)).setIfInBounds 6 (.int .i64 (b 6).n)).setIfInBounds 8 (.int .i64 (b 8).n)).setIfInBounds 9 (.int .i64 (b 9).n)).setIfInBounds 10 (.int .i64 (b 10).n)).setIfInBounds 12 (.int .i64 (b 12).n)).setIfInBounds 13 (.int .i64 (b 13).n)).setIfInBounds 14 (.int .i64 (b 14).n)).setIfInBounds 40 (.slice ra (b 11).rs.length rc) = bdc b (ptR ra rc) := by
  obtain ⟨p0, p1, p11, p17, p18, p19, pt⟩ := h.v.parts
  have p15 : (b 15).n = 0 := by rw [h.z15]; rfl
  have p16 : (b 16).n = 0 := by rw [h.z16]; rfl
  have q17 : (b 17).nm = [] := by rw [h.z17]; rfl
  have q18 : (b 18).ct = [] := by rw [h.z18]; rfl
  have p7 : (b 7).n = 0 := h.c7
  rw [bdc_lit, p0, p1, p7, p11, p15, p16, p17, p18, p19, q17, q18, pt 2 (by omega), pt 3 (by omega), pt 4 (by omega), pt 5 (by omega), pt 6 (by omega), pt 7 (by omega), pt 8 (by omega), pt 9 (by omega), pt 10 (by omega), pt 11 (by omega), pt 12 (by omega), pt 13 (by omega), pt 14 (by omega), pt 15 (by omega), pt 16 (by omega), pt 17 (by omega), pt 18 (by omega), pt 19 (by omega)]
  exact bql_false _ _ _ _ _ _ _ _ _ _ _ _ _ _ _ _
/-- The fields that a response has. -/
structure RsB (b : Bd) (p : Pt) : Prop where
  v : VB b
  z : ∀ f, f ≤ 14 → f ≠ 12 → b f = fz
  pr : p.ra = none ∧ p.rc = 0
theorem bs_all (b : Bd) (p : Pt) (h : RsB b p) : ((((((zbd).setIfInBounds 12 (.int .i64 (b 12).n)).setIfInBounds 15 (.int .i64 (b 15).n)).setIfInBounds 16 (.int .i64 (b 16).n)).setIfInBounds 41 (.slice p.na (b 17).nm.length p.nc)).setIfInBounds 42 (.slice p.ca (b 18).ct.length p.cc)).setIfInBounds 43 (.slice p.ba p.bs.length p.bc) = bdc b p := by
  obtain ⟨p0, p1, p11, p17, p18, p19, pt⟩ := h.v.parts
  have z : ∀ f, f ≤ 14 → f ≠ 12 → (b f).n = 0 ∧ (b f).t = ⟨#[]⟩ ∧ (b f).rs = [] := fun f h1 h2 => by rw [h.z f h1 h2]; exact ⟨rfl, rfl, rfl⟩
  rw [bdc_lit, h.pr.1, h.pr.2, p17, p18, p19, (z 0 (by omega) (by omega)).1, (z 1 (by omega) (by omega)).1, (z 2 (by omega) (by omega)).1, (z 3 (by omega) (by omega)).1, (z 4 (by omega) (by omega)).1, (z 5 (by omega) (by omega)).1, (z 6 (by omega) (by omega)).1, (z 7 (by omega) (by omega)).1, (z 8 (by omega) (by omega)).1, (z 9 (by omega) (by omega)).1, (z 10 (by omega) (by omega)).1, (z 11 (by omega) (by omega)).1, (z 13 (by omega) (by omega)).1, (z 14 (by omega) (by omega)).1, (z 0 (by omega) (by omega)).2.1, (z 1 (by omega) (by omega)).2.1, (z 11 (by omega) (by omega)).2.2, pt 2 (by omega), pt 3 (by omega), pt 4 (by omega), pt 5 (by omega), pt 6 (by omega), pt 7 (by omega), pt 8 (by omega), pt 9 (by omega), pt 10 (by omega), pt 11 (by omega), pt 12 (by omega), pt 13 (by omega), pt 14 (by omega), pt 15 (by omega), pt 16 (by omega), pt 17 (by omega), pt 18 (by omega), pt 19 (by omega)]
  rfl
theorem all_one {b : Bd} {p : Pt} : (bdc b p).all (·.oneCell') = true := by
  rw [bdc_lit]
  simp [Value.oneCell']
end Go.Proofs.YtaooidckmepdeaaDoor
