/- Kx Ky Kz Aw Ax Oq Qb in one text (wip/tools/merge20.py). -/
import Derived.Test.YtaooidckmepdeaaDoorGh
import Derived.Test.YtaooidckmepdeaaDoorGb
import Derived.Test.YtaooidckmepdeaaDoorGe
import Derived.SizedLaws
namespace Go.Proofs.YtaooidckmepdeaaDoor
set_option linter.unusedSimpArgs false
set_option linter.unusedVariables false
open Go.RowKit
theorem two_boxes (w : World) (c1 c2 : Array Value) (t1 t2 : TypeId) : ((w.alloc (.cells c1 t1)).alloc (.cells c2 t2)).heap[w.heap.size]? = some (.cells c1 t1 (0, 0)) ∧ ((w.alloc (.cells c1 t1)).alloc (.cells c2 t2)).heap[w.heap.size + 1]? = some (.cells c2 t2 (0, 0)) := by
  refine ⟨((below_box _).block _ (by simp)).trans (heap_alloc_new w _), ?_⟩
  have q := heap_alloc_new (w.alloc (.cells c1 t1)) (.cells c2 t2)
  rw [show (w.alloc (.cells c1 t1)).heap.size = w.heap.size + 1 by simp] at q
  exact q
set_option maxRecDepth 100000 in
set_option maxHeartbeats 400000 in
theorem request_of (b : Bd) (p : Pt) (w : World) : Calls Tryd.prog 35 #[.agg (bdc b p)] w fun e w' => e = .returned (.agg (rqc 0 0 b ((b 7).n == 1) p.ra p.rc)) ∧ Below w.heap.size w w' := by
  have hB := (two_boxes w (bdc b p) #[.int .i64 0, .int .i64 0, .string ⟨#[]⟩, .int .i64 0, .int .i64 0, .int .i64 0, .int .i64 0, .int .i64 0, .bool false, .int .i64 0, .int .i64 0, .int .i64 0, .slice none 0 0, .int .i64 0, .int .i64 0, .int .i64 0, .string ⟨#[]⟩] 66 26).1
  have HY : Hid (((w.alloc (.cells (bdc b p) 66)).alloc (.cells #[.int .i64 0, .int .i64 0, .string ⟨#[]⟩, .int .i64 0, .int .i64 0, .int .i64 0, .int .i64 0, .int .i64 0, .bool false, .int .i64 0, .int .i64 0, .int .i64 0, .slice none 0 0, .int .i64 0, .int .i64 0, .int .i64 0, .string ⟨#[]⟩] 26)).heap[w.heap.size + 1]? = some (.cells #[.int .i64 0, .int .i64 0, .string ⟨#[]⟩, .int .i64 0, .int .i64 0, .int .i64 0, .int .i64 0, .int .i64 0, .bool false, .int .i64 0, .int .i64 0, .int .i64 0, .slice none 0 0, .int .i64 0, .int .i64 0, .int .i64 0, .string ⟨#[]⟩] 26 (0, 0))) := (two_boxes w (bdc b p) #[.int .i64 0, .int .i64 0, .string ⟨#[]⟩, .int .i64 0, .int .i64 0, .int .i64 0, .int .i64 0, .int .i64 0, .bool false, .int .i64 0, .int .i64 0, .int .i64 0, .slice none 0 0, .int .i64 0, .int .i64 0, .int .i64 0, .string ⟨#[]⟩] 66 26).2
  have HW : Hid (Below w.heap.size w ((w.alloc (.cells (bdc b p) 66)).alloc (.cells #[.int .i64 0, .int .i64 0, .string ⟨#[]⟩, .int .i64 0, .int .i64 0, .int .i64 0, .int .i64 0, .int .i64 0, .bool false, .int .i64 0, .int .i64 0, .int .i64 0, .slice none 0 0, .int .i64 0, .int .i64 0, .int .i64 0, .string ⟨#[]⟩] 26))) := (below_box _).trans ((below_box _).mono (by simp))
  obtain ⟨cn, ct, c40, c41, c42, c43, hlt⟩ := bdc_box hB
  have n2 := cn 2 (by decide)
  have n3 := cn 3 (by decide)
  have n4 := cn 4 (by decide)
  have n5 := cn 5 (by decide)
  have n6 := cn 6 (by decide)
  have n7 := cn 7 (by decide)
  have n8 := cn 8 (by decide)
  have n9 := cn 9 (by decide)
  have n10 := cn 10 (by decide)
  have n12 := cn 12 (by decide)
  have n13 := cn 13 (by decide)
  have n14 := cn 14 (by decide)
  have t0 := ct 0 (by decide)
  have t1 := ct 1 (by decide)
  clear cn ct hB
  unfold rqc
  generalize (b 2).n = v2 at *
  generalize (b 3).n = v3 at *
  generalize (b 4).n = v4 at *
  generalize (b 5).n = v5 at *
  generalize (b 6).n = v6 at *
  generalize (b 7).n = v7 at *
  generalize (b 8).n = v8 at *
  generalize (b 9).n = v9 at *
  generalize (b 10).n = v10 at *
  generalize (b 12).n = v12 at *
  generalize (b 13).n = v13 at *
  generalize (b 14).n = v14 at *
  generalize (b 0).t = x0 at *
  generalize (b 1).t = x1 at *
  generalize (b 11).rs.length = nr at *
  generalize bdc b p = cs at *
  go_enter Tryd.func35, Tryd.ntmps35
  go_wp2_with fail
  refine bodyPost_ret (results_cell_row rfl _ _ (w.heap.size + 1) 26 #[.int .i64 0, .int .i64 0, .string x0, .int .i64 v2, .int .i64 v3, .int .i64 v4, .int .i64 v5, .int .i64 v6, .bool (v7 == 1), .int .i64 v8, .int .i64 v9, .int .i64 v10, .slice p.ra nr p.rc, .int .i64 v12, .int .i64 v13, .int .i64 v14, .string x1] (0, 0) _ rfl (two_boxes w cs _ 66 26).2 Tryd.underlying26 rfl Tryd.info26) rfl ?_
  exact ⟨rfl, (below_box _).trans ((below_box _).mono (by simp))⟩
set_option maxRecDepth 100000 in
set_option maxHeartbeats 400000 in
theorem response_of (b : Bd) (p : Pt) (w : World) : Calls Tryd.prog 38 #[.agg (bdc b p)] w fun e w' => e = .returned (.agg (rsc 0 0 0 b p)) ∧ Below w.heap.size w w' := by
  have hB := (two_boxes w (bdc b p) #[.int .i64 0, .int .i64 0, .int .i64 0, .int .i64 0, .int .i64 0, .int .i64 0, .slice none 0 0, .slice none 0 0, .slice none 0 0] 66 40).1
  have HY : Hid (((w.alloc (.cells (bdc b p) 66)).alloc (.cells #[.int .i64 0, .int .i64 0, .int .i64 0, .int .i64 0, .int .i64 0, .int .i64 0, .slice none 0 0, .slice none 0 0, .slice none 0 0] 40)).heap[w.heap.size + 1]? = some (.cells #[.int .i64 0, .int .i64 0, .int .i64 0, .int .i64 0, .int .i64 0, .int .i64 0, .slice none 0 0, .slice none 0 0, .slice none 0 0] 40 (0, 0))) := (two_boxes w (bdc b p) #[.int .i64 0, .int .i64 0, .int .i64 0, .int .i64 0, .int .i64 0, .int .i64 0, .slice none 0 0, .slice none 0 0, .slice none 0 0] 66 40).2
  have HW : Hid (Below w.heap.size w ((w.alloc (.cells (bdc b p) 66)).alloc (.cells #[.int .i64 0, .int .i64 0, .int .i64 0, .int .i64 0, .int .i64 0, .int .i64 0, .slice none 0 0, .slice none 0 0, .slice none 0 0] 40))) := (below_box _).trans ((below_box _).mono (by simp))
  obtain ⟨cn, ct, c40, c41, c42, c43, hlt⟩ := bdc_box hB
  have n12 := cn 12 (by decide)
  have n15 := cn 15 (by decide)
  have n16 := cn 16 (by decide)
  clear cn ct hB
  unfold rsc
  generalize (b 12).n = v12 at *
  generalize (b 15).n = v15 at *
  generalize (b 16).n = v16 at *
  generalize (b 17).nm.length = n17 at *
  generalize (b 18).ct.length = n18 at *
  generalize bdc b p = cs at *
  go_enter Tryd.func38, Tryd.ntmps38
  go_wp2_with fail
  refine bodyPost_ret (results_cell_row rfl _ _ (w.heap.size + 1) 40 #[.int .i64 0, .int .i64 0, .int .i64 0, .int .i64 v12, .int .i64 v15, .int .i64 v16, .slice p.na n17 p.nc, .slice p.ca n18 p.cc, .slice p.ba p.bs.length p.bc] (0, 0) _ rfl (two_boxes w cs _ 66 40).2 Tryd.underlying40 rfl Tryd.info40) rfl ?_
  exact ⟨rfl, (below_box _).trans ((below_box _).mono (by simp))⟩
end Go.Proofs.YtaooidckmepdeaaDoor
namespace Go.Proofs.YtaooidckmepdeaaDoor
set_option linter.unusedSimpArgs false
set_option linter.unusedVariables false
open Go.RowKit
theorem results_26 {fn : Func} {p u : Tmp} (h : fn.results = #[.cell p 26, .tmp u]) (tmps : Array Value) (w : World) (g : Nat) (cs : Array Value) (v : Value) (hp : tmps.getD p undef = .pointer (some ⟨g, 0, none⟩)) (hv : tmps.getD u undef = v) (hi : cs.size = 17) (hg : w.heap[g]? = some (.cells cs 26 (0, 0))) :
    (results fn tmps).run Tryd.prog w = .ok (.tuple #[.agg cs, v]) w := by
  have h2 := run_loadVar_row (P := Tryd.prog) w g 26 26 cs (0, 0) _ hg Tryd.underlying26 rfl (by rw [hi]; exact Tryd.info26)
  subst hv
  rw [results_cell_tmp h, hp]
  simp [asAddr, h2, Result.andThen]
theorem results_40 {fn : Func} {p u : Tmp} (h : fn.results = #[.cell p 40, .tmp u]) (tmps : Array Value) (w : World) (g : Nat) (cs : Array Value) (v : Value) (hp : tmps.getD p undef = .pointer (some ⟨g, 0, none⟩)) (hv : tmps.getD u undef = v) (hi : cs.size = 9) (hg : w.heap[g]? = some (.cells cs 40 (0, 0))) :
    (results fn tmps).run Tryd.prog w = .ok (.tuple #[.agg cs, v]) w := by
  have h2 := run_loadVar_row (P := Tryd.prog) w g 40 40 cs (0, 0) _ hg Tryd.underlying40 rfl (by rw [hi]; exact Tryd.info40)
  subst hv
  rw [results_cell_tmp h, hp]
  simp [asAddr, h2, Result.andThen]
theorem rrow_off {w : World} {R : Nat} {cs : Array Value} {t : TypeId} {a : Option Addr} {rs : List Rc} (hR : w.heap[R]? = some (.cells cs t (0, 0))) (hc : ∀ (j : Nat) (v : Bool) (u : ByteArray), cs[j]? = some (.bool v) → cs[j + 1]? = some (.string u) → False) (hr : RRow w a rs) : ∀ i, i < rs.length → ∀ bb off, a = some ⟨bb, off, none⟩ → bb ≠ R := by
  intro i hi bb off e
  rintro rfl
  obtain ⟨b', off', e', h0, h1, _⟩ := hr i hi
  rw [e] at e'
  simp only [Option.some.injEq, Addr.mk.injEq, and_true] at e'
  obtain ⟨rfl, rfl⟩ := e'
  rw [(box_at hR _).1] at h0 h1
  exact hc _ _ _ h0 h1
theorem BdX.off {w : World} {X R : Nat} {b : Bd} {p : Pt} {cs c2 : Array Value} {t : TypeId} (h : BdX w X b p) (hR : w.heap[R]? = some (.cells cs t (0, 0))) (hc : ∀ (j : Nat) (v : Bool) (u : ByteArray), cs[j]? = some (.bool v) → cs[j + 1]? = some (.string u) → False) (hX : R < X) : BdX (w.setRow R c2) X b p := by
  have hs : ∀ k, k ≠ R → (w.setRow R c2).heap[k]? = w.heap[k]? := fun k hk => setRow_other w R k c2 hk
  refine ⟨(hs X (by omega)).trans h.box, rrow_keep h.rs (fun j hj bb off e => hs bb (rrow_off hR hc h.rs j hj bb off e)), srow_keep h.nm (fun j hj bb off e => hs bb ?_), irow_keep h.ct (fun j hj bb off e => hs bb ?_), ⟨bcells_keep h.bs.1 (fun j hj bb off e => hs bb ?_), fun j hj => ⟨rrow_keep (h.bs.2 j hj).1 (fun j' hj' bb off e => hs bb (rrow_off hR hc (h.bs.2 j hj).1 j' hj' bb off e)), (h.bs.2 j hj).2⟩⟩, h.bb, h.n1, h.o1, h.o2, h.o3, h.o4⟩
  · have := h.o2 _ e; simp at this; omega
  · have := h.o3 _ e; simp at this; omega
  · have := h.o4 _ e; simp at this; omega
def z26 : Array Value := #[.int .i64 0, .int .i64 0, .string ⟨#[]⟩, .int .i64 0, .int .i64 0, .int .i64 0, .int .i64 0, .int .i64 0, .bool false, .int .i64 0, .int .i64 0, .int .i64 0, .slice none 0 0, .int .i64 0, .int .i64 0, .int .i64 0, .string ⟨#[]⟩]
theorem z26_no : ∀ (j : Nat) (v : Bool) (u : ByteArray), z26[j]? = some (.bool v) → z26[j + 1]? = some (.string u) → False := by
  intro j v u h1 h2
  have hj : j < 17 := by have := (Array.getElem?_eq_some_iff.1 h1).1; simpa [z26] using this
  unfold z26 at h1 h2
  rcases j with _ | _ | _ | _ | _ | _ | _ | _ | _ | _ | _ | _ | _ | _ | _ | _ | _ | j <;> simp at h1 h2
theorem RdR.new (y : World) (a : Option Addr) (cap : Nat) (l : List Nat) (hr : Row y a l) (hl : l.length ≤ cap) (hc : cap ≤ maxLen) (hn : a = none → cap = 0) (hbig : l.length ≤ 1000000000000) : RdR y (y.alloc (.cells #[.slice a l.length cap, .bool false] 89)) (some l) :=
  ⟨⟨a, cap, heap_alloc_new y _, hr, hl, hc, hn, hbig⟩, below_box _⟩
/-- A new box of what is told. -/
theorem box_new (w : World) (Z CS : Array Value) (t : TypeId) : ((w.alloc (.cells Z t)).setRow w.heap.size CS).heap[w.heap.size]? = some (.cells CS t (0, 0)) ∧ Below w.heap.size w ((w.alloc (.cells Z t)).setRow w.heap.size CS) :=
  ⟨setRow_heap _ _ _ _ _ _ (heap_alloc_new w _), below_setRow (below_box _) (Nat.le_refl _) _⟩
set_option maxRecDepth 100000 in
set_option maxHeartbeats 400000 in
theorem parseQ_in (w : World) (a : Option Addr) (cap : Nat) (l : List Nat) (k i : Int) (T : Option (List Nat)) (n : Nat) (ok done : Bool) (s1 s2 s3 : Ls) (B : Bd) (P : Ending → World → Prop)
    (HS : Hid (RdR (w.alloc (.cells #[.int .i64 0, .int .i64 0, .string ⟨#[]⟩, .int .i64 0, .int .i64 0, .int .i64 0, .int .i64 0, .int .i64 0, .bool false, .int .i64 0, .int .i64 0, .int .i64 0, .slice none 0 0, .int .i64 0, .int .i64 0, .int .i64 0, .string ⟨#[]⟩] 26)) ((w.alloc (.cells #[.int .i64 0, .int .i64 0, .string ⟨#[]⟩, .int .i64 0, .int .i64 0, .int .i64 0, .int .i64 0, .int .i64 0, .bool false, .int .i64 0, .int .i64 0, .int .i64 0, .slice none 0 0, .int .i64 0, .int .i64 0, .int .i64 0, .string ⟨#[]⟩] 26)).alloc (.cells #[.slice a l.length cap, .bool false] 89)) (some l)))
    (HI : Hid (T.isSome = ok ∧ (rowOr T).length = n))
    (H1 : Hid (∀ x, RdR (w.alloc (.cells #[.int .i64 0, .int .i64 0, .string ⟨#[]⟩, .int .i64 0, .int .i64 0, .int .i64 0, .int .i64 0, .int .i64 0, .bool false, .int .i64 0, .int .i64 0, .int .i64 0, .slice none 0 0, .int .i64 0, .int .i64 0, .int .i64 0, .string ⟨#[]⟩] 26)) x (some l) → Calls Tryd.prog 32 #[(.pointer (some ⟨w.heap.size + 1, 0, none⟩)), .int .i64 1] x (RP (w.alloc (.cells #[.int .i64 0, .int .i64 0, .string ⟨#[]⟩, .int .i64 0, .int .i64 0, .int .i64 0, .int .i64 0, .int .i64 0, .bool false, .int .i64 0, .int .i64 0, .int .i64 0, .slice none 0 0, .int .i64 0, .int .i64 0, .int .i64 0, .string ⟨#[]⟩] 26)) x (.int .i64 k) s1)))
    (H2 : Hid (∀ x, RdR (w.alloc (.cells #[.int .i64 0, .int .i64 0, .string ⟨#[]⟩, .int .i64 0, .int .i64 0, .int .i64 0, .int .i64 0, .int .i64 0, .bool false, .int .i64 0, .int .i64 0, .int .i64 0, .slice none 0 0, .int .i64 0, .int .i64 0, .int .i64 0, .string ⟨#[]⟩] 26)) x s1 → Calls Tryd.prog 32 #[(.pointer (some ⟨w.heap.size + 1, 0, none⟩)), .int .i64 4] x (RP (w.alloc (.cells #[.int .i64 0, .int .i64 0, .string ⟨#[]⟩, .int .i64 0, .int .i64 0, .int .i64 0, .int .i64 0, .int .i64 0, .bool false, .int .i64 0, .int .i64 0, .int .i64 0, .slice none 0 0, .int .i64 0, .int .i64 0, .int .i64 0, .string ⟨#[]⟩] 26)) x (.int .i64 i) s2)))
    (HR : Hid (∀ x, Calls Tryd.prog 22 #[.int .i64 0, .int .i64 k] x (RowP T x)))
    (HF : Hid (∀ x a c, RdR (w.alloc (.cells #[.int .i64 0, .int .i64 0, .string ⟨#[]⟩, .int .i64 0, .int .i64 0, .int .i64 0, .int .i64 0, .int .i64 0, .bool false, .int .i64 0, .int .i64 0, .int .i64 0, .slice none 0 0, .int .i64 0, .int .i64 0, .int .i64 0, .string ⟨#[]⟩] 26)) x s2 → FRow x a (rowOr T) → Calls Tryd.prog 33 #[(.pointer (some ⟨w.heap.size + 1, 0, none⟩)), .slice a n c] x (FsP (w.alloc (.cells #[.int .i64 0, .int .i64 0, .string ⟨#[]⟩, .int .i64 0, .int .i64 0, .int .i64 0, .int .i64 0, .int .i64 0, .bool false, .int .i64 0, .int .i64 0, .int .i64 0, .slice none 0 0, .int .i64 0, .int .i64 0, .int .i64 0, .string ⟨#[]⟩] 26)) x B s3)))
    (HE : Hid (∀ x, RdR (w.alloc (.cells #[.int .i64 0, .int .i64 0, .string ⟨#[]⟩, .int .i64 0, .int .i64 0, .int .i64 0, .int .i64 0, .int .i64 0, .bool false, .int .i64 0, .int .i64 0, .int .i64 0, .slice none 0 0, .int .i64 0, .int .i64 0, .int .i64 0, .string ⟨#[]⟩] 26)) x s3 → Calls Tryd.prog 34 #[(.pointer (some ⟨w.heap.size + 1, 0, none⟩))] x fun e w' => e = .returned (.bool done) ∧ w' = x))
    (HP0 : Hid ((ok && done) = false → ∀ w', Below w.heap.size w w' → P (.returned (.tuple #[.agg #[.int .i64 0, .int .i64 0, .string ⟨#[]⟩, .int .i64 0, .int .i64 0, .int .i64 0, .int .i64 0, .int .i64 0, .bool false, .int .i64 0, .int .i64 0, .int .i64 0, .slice none 0 0, .int .i64 0, .int .i64 0, .int .i64 0, .string ⟨#[]⟩], .int .i64 13])) w'))
    (HP1 : Hid ((ok && done) = true → ∀ p X w', w.heap.size + 1 < X → BdX w' X B p → Below w.heap.size w w' → P (.returned (.tuple #[.agg (rqc k i B ((B 7).n == 1) p.ra p.rc), .int .i64 0])) w')) :
    Calls Tryd.prog 15 #[.slice a l.length cap] w P := by
  have HYS : Hid ((w.alloc (.cells #[.int .i64 0, .int .i64 0, .string ⟨#[]⟩, .int .i64 0, .int .i64 0, .int .i64 0, .int .i64 0, .int .i64 0, .bool false, .int .i64 0, .int .i64 0, .int .i64 0, .slice none 0 0, .int .i64 0, .int .i64 0, .int .i64 0, .string ⟨#[]⟩] 26)).heap.size = w.heap.size + 1) := by show _ = _; simp
  have HYB : Hid (Below w.heap.size w (w.alloc (.cells #[.int .i64 0, .int .i64 0, .string ⟨#[]⟩, .int .i64 0, .int .i64 0, .int .i64 0, .int .i64 0, .int .i64 0, .bool false, .int .i64 0, .int .i64 0, .int .i64 0, .slice none 0 0, .int .i64 0, .int .i64 0, .int .i64 0, .string ⟨#[]⟩] 26))) := below_box _
  have HRZ : Hid (∀ x st, RdR (w.alloc (.cells #[.int .i64 0, .int .i64 0, .string ⟨#[]⟩, .int .i64 0, .int .i64 0, .int .i64 0, .int .i64 0, .int .i64 0, .bool false, .int .i64 0, .int .i64 0, .int .i64 0, .slice none 0 0, .int .i64 0, .int .i64 0, .int .i64 0, .string ⟨#[]⟩] 26)) x st → x.heap[w.heap.size]? = some (.cells #[.int .i64 0, .int .i64 0, .string ⟨#[]⟩, .int .i64 0, .int .i64 0, .int .i64 0, .int .i64 0, .int .i64 0, .bool false, .int .i64 0, .int .i64 0, .int .i64 0, .slice none 0 0, .int .i64 0, .int .i64 0, .int .i64 0, .string ⟨#[]⟩] 26 (0, 0)) ∧ Below w.heap.size w x) := fun x st h => ⟨(h.bel.block w.heap.size (by simp)).trans (heap_alloc_new w _), HYB.out.trans (h.bel.mono (by simp))⟩
  have HPQ : Hid (∀ b p x, Calls Tryd.prog 35 #[.agg (bdc b p)] x fun e w' => e = .returned (.agg (rqc 0 0 b ((b 7).n == 1) p.ra p.rc)) ∧ Below x.heap.size x w') := fun b p x => request_of b p x
  have tok1 : True := trivial
  cases ok
  · go_enter Tryd.func15, Tryd.ntmps15
    go_wp2_with (first | (have _h := tok1; go_at_call 32; refine (H1.out _ HS.out).mono ?_; rintro e w2 ⟨rfl, hw2, hk2⟩; have HW2 : Hid (RdR (w.alloc (.cells #[.int .i64 0, .int .i64 0, .string ⟨#[]⟩, .int .i64 0, .int .i64 0, .int .i64 0, .int .i64 0, .int .i64 0, .bool false, .int .i64 0, .int .i64 0, .int .i64 0, .slice none 0 0, .int .i64 0, .int .i64 0, .int .i64 0, .string ⟨#[]⟩] 26)) w2 s1) := hw2; have tok2 : True := trivial; clear hw2 hk2 _h tok1) | (have _h := tok2; go_at_call 32; refine (H2.out _ HW2.out).mono ?_; rintro e w3 ⟨rfl, hw3, hk3⟩; have HW3 : Hid (RdR (w.alloc (.cells #[.int .i64 0, .int .i64 0, .string ⟨#[]⟩, .int .i64 0, .int .i64 0, .int .i64 0, .int .i64 0, .int .i64 0, .bool false, .int .i64 0, .int .i64 0, .int .i64 0, .slice none 0 0, .int .i64 0, .int .i64 0, .int .i64 0, .string ⟨#[]⟩] 26)) w3 s2) := hw3; clear hw3 hk3 _h tok2) | (go_at_call 22; refine (HR.out _).mono ?_; rintro e w4 ⟨⟨a1, c1, rfl, hf1⟩, hb1⟩; rw [HI.out.1, HI.out.2]; have HW4 : Hid (RdR (w.alloc (.cells #[.int .i64 0, .int .i64 0, .string ⟨#[]⟩, .int .i64 0, .int .i64 0, .int .i64 0, .int .i64 0, .int .i64 0, .bool false, .int .i64 0, .int .i64 0, .int .i64 0, .slice none 0 0, .int .i64 0, .int .i64 0, .int .i64 0, .string ⟨#[]⟩] 26)) w4 s2) := RdR.below HW3.out hb1; have HFR : Hid (FRow w4 a1 (rowOr T)) := hf1; clear hf1 hb1) | (go_at_call 33; refine (HF.out _ _ _ HW4.out HFR.out).mono ?_; rintro e w5 ⟨p, X, hX, rfl, hx5, hw5, hk5⟩; have HX5 : Hid (BdX w5 X B p) := hx5; have HW5 : Hid (RdR (w.alloc (.cells #[.int .i64 0, .int .i64 0, .string ⟨#[]⟩, .int .i64 0, .int .i64 0, .int .i64 0, .int .i64 0, .int .i64 0, .bool false, .int .i64 0, .int .i64 0, .int .i64 0, .slice none 0 0, .int .i64 0, .int .i64 0, .int .i64 0, .string ⟨#[]⟩] 26)) w5 s3) := hw5; have HXX : Hid (w4.heap.size ≤ X) := hX; have HZ : Hid ((bdc B p).size = 44) := bdc_size _ _; have HONE : Hid ((bdc B p).all (·.oneCell') = true) := all_one; have HPQ2 : Hid _ := HPQ.out B p; obtain ⟨CS, HCS⟩ : ∃ CS, Hid (bdc B p = CS) := ⟨_, rfl⟩; rw [HCS.out] at HZ HONE HPQ2 ⊢; have tok5 : True := trivial; clear hx5 hw5 hX hk5) | (have _h := tok5; refine wpList_store_row rfl 66 _ _ rfl w5.heap.size CS rfl rfl 66 (List.toArray (Value.int .i64 0 :: Value.int .i64 0 :: Value.int .i64 0 :: Value.int .i64 0 :: Value.int .i64 0 :: Value.int .i64 0 :: Value.int .i64 0 :: Value.int .i64 0 :: Value.int .i64 0 :: Value.int .i64 0 :: Value.int .i64 0 :: Value.int .i64 0 :: Value.int .i64 0 :: Value.int .i64 0 :: Value.int .i64 0 :: Value.int .i64 0 :: Value.int .i64 0 :: Value.int .i64 0 :: Value.int .i64 0 :: Value.int .i64 0 :: Value.string ⟨#[]⟩ :: Value.string ⟨#[]⟩ :: Value.string ⟨#[]⟩ :: Value.string ⟨#[]⟩ :: Value.string ⟨#[]⟩ :: Value.string ⟨#[]⟩ :: Value.string ⟨#[]⟩ :: Value.string ⟨#[]⟩ :: Value.string ⟨#[]⟩ :: Value.string ⟨#[]⟩ :: Value.string ⟨#[]⟩ :: Value.string ⟨#[]⟩ :: Value.string ⟨#[]⟩ :: Value.string ⟨#[]⟩ :: Value.string ⟨#[]⟩ :: Value.string ⟨#[]⟩ :: Value.string ⟨#[]⟩ :: Value.string ⟨#[]⟩ :: Value.string ⟨#[]⟩ :: Value.string ⟨#[]⟩ :: Value.slice none 0 0 :: Value.slice none 0 0 :: Value.slice none 0 0 :: Value.slice none 0 0 :: [])) (heap_alloc_new w5 _) (by rw [HZ.out]; exact Tryd.info66) (by rw [HZ.out]; rfl) HONE.out ?_; obtain ⟨hb6, hl6⟩ := box_new w5 _ CS 66; generalize World.setRow _ w5.heap.size CS = w6 at *; have HB6 : Hid (w6.heap[w5.heap.size]? = some (.cells CS 66 (0, 0))) := hb6; have HL6 : Hid (Below w5.heap.size w5 w6) := hl6; have HW6 : Hid (RdR (w.alloc (.cells #[.int .i64 0, .int .i64 0, .string ⟨#[]⟩, .int .i64 0, .int .i64 0, .int .i64 0, .int .i64 0, .int .i64 0, .bool false, .int .i64 0, .int .i64 0, .int .i64 0, .slice none 0 0, .int .i64 0, .int .i64 0, .int .i64 0, .string ⟨#[]⟩] 26)) w6 s3) := RdR.below HW5.out hl6; have tok6 : True := trivial; clear hb6 hl6 _h tok5) | (have _h := tok6; refine wpList_load_row rfl 66 _ rfl w5.heap.size rfl 66 CS (0, 0) _ HB6.out Tryd.underlying66 rfl (by rw [HZ.out]; exact Tryd.info66) ?_; clear _h) | (have _h := tok6; refine wpList_store_row rfl 26 _ _ rfl w.heap.size #[.int .i64 0, .int .i64 0, .string ⟨#[]⟩, .int .i64 0, .int .i64 0, .int .i64 0, .int .i64 0, .int .i64 0, .bool false, .int .i64 0, .int .i64 0, .int .i64 0, .slice none 0 0, .int .i64 0, .int .i64 0, .int .i64 0, .string ⟨#[]⟩] rfl rfl 26 _ (HRZ.out _ _ HW6.out).1 Tryd.info26 rfl (by simp [Value.oneCell']) ?_; clear _h tok6) | (go_at_call 35; refine (HPQ2.out _).mono ?_; rintro e w8 ⟨rfl, hb8⟩; have HW8 : Hid (RdR (w.alloc (.cells #[.int .i64 0, .int .i64 0, .string ⟨#[]⟩, .int .i64 0, .int .i64 0, .int .i64 0, .int .i64 0, .int .i64 0, .bool false, .int .i64 0, .int .i64 0, .int .i64 0, .slice none 0 0, .int .i64 0, .int .i64 0, .int .i64 0, .string ⟨#[]⟩] 26)) w8 s3) := RdR.below HW6.out hb8; have hXX : (w.alloc (.cells #[.int .i64 0, .int .i64 0, .string ⟨#[]⟩, .int .i64 0, .int .i64 0, .int .i64 0, .int .i64 0, .int .i64 0, .bool false, .int .i64 0, .int .i64 0, .int .i64 0, .slice none 0 0, .int .i64 0, .int .i64 0, .int .i64 0, .string ⟨#[]⟩] 26)).heap.size < X := (by obtain ⟨_, _, q, _⟩ := HW4.out.box; have q1 := (Array.getElem?_eq_some_iff.1 q).1; have q2 := HXX.out; omega); have HX8 : Hid (BdX w8 X B p) := (BdX.keepB HX5.out HW5.out hXX (KeepB.of_below HL6.out)).keepB HW6.out hXX (KeepB.of_below hb8); have HX9 : Hid ((w.alloc (.cells #[.int .i64 0, .int .i64 0, .string ⟨#[]⟩, .int .i64 0, .int .i64 0, .int .i64 0, .int .i64 0, .int .i64 0, .bool false, .int .i64 0, .int .i64 0, .int .i64 0, .slice none 0 0, .int .i64 0, .int .i64 0, .int .i64 0, .string ⟨#[]⟩] 26)).heap.size < X) := hXX; obtain ⟨CQ, HCQ⟩ : ∃ CQ, Hid (rqc 0 0 B ((B 7).n == 1) p.ra p.rc = CQ) := ⟨_, rfl⟩; have HCZ : Hid (CQ.size = 17 ∧ CQ.all (·.oneCell') = true ∧ CQ[0]? = some (.int .i64 0) ∧ CQ[1]? = some (.int .i64 0) ∧ (CQ.setIfInBounds 0 (.int .i64 k)).setIfInBounds 1 (.int .i64 i) = rqc k i B ((B 7).n == 1) p.ra p.rc) := (by rw [← HCQ.out]; exact ⟨rfl, by simp [rqc, Value.oneCell'], rfl, rfl, rfl⟩); rw [HCQ.out]; have tok8 : True := trivial; clear hb8 hXX tok6) | (have _h := tok8; refine wpList_store_row rfl 26 _ _ rfl w8.heap.size CQ rfl rfl 26 #[.int .i64 0, .int .i64 0, .string ⟨#[]⟩, .int .i64 0, .int .i64 0, .int .i64 0, .int .i64 0, .int .i64 0, .bool false, .int .i64 0, .int .i64 0, .int .i64 0, .slice none 0 0, .int .i64 0, .int .i64 0, .int .i64 0, .string ⟨#[]⟩] (heap_alloc_new w8 _) (by rw [HCZ.out.1]; exact Tryd.info26) (by rw [HCZ.out.1]; rfl) HCZ.out.2.1 ?_; obtain ⟨hb9, hl9⟩ := box_new w8 #[.int .i64 0, .int .i64 0, .string ⟨#[]⟩, .int .i64 0, .int .i64 0, .int .i64 0, .int .i64 0, .int .i64 0, .bool false, .int .i64 0, .int .i64 0, .int .i64 0, .slice none 0 0, .int .i64 0, .int .i64 0, .int .i64 0, .string ⟨#[]⟩] CQ 26; generalize World.setRow _ w8.heap.size CQ = w9 at *; have q0 := (box_at hb9 0).1; have q1 := (box_at hb9 1).1; have f0 := (box_at hb9 0).2; have f1 := (box_at hb9 1).2; rw [HCZ.out.2.2.1] at q0; rw [HCZ.out.2.2.2.1] at q1; have HB9 : Hid (((w9.setCell ⟨w8.heap.size, 0, none⟩ (.int .i64 k)).setCell ⟨w8.heap.size, 1, none⟩ (.int .i64 i)).heap[w8.heap.size]? = some (.cells ((CQ.setIfInBounds 0 (.int .i64 k)).setIfInBounds 1 (.int .i64 i)) 26 (0, 0))) := two_put hb9; have HL9 : Hid (Below w8.heap.size w8 ((w9.setCell ⟨w8.heap.size, 0, none⟩ (.int .i64 k)).setCell ⟨w8.heap.size, 1, none⟩ (.int .i64 i))) := (hl9.setCell (p := ⟨w8.heap.size, 0, none⟩) (Nat.le_refl _) _).setCell (p := ⟨w8.heap.size, 1, none⟩) (Nat.le_refl _) _; have tok9 : True := trivial; clear hb9 hl9 _h tok8) | (have _h := tok9; refine wpList_load_row rfl 26 _ rfl w8.heap.size rfl 26 _ (0, 0) _ HB9.out Tryd.underlying26 rfl (by rw [Array.size_setIfInBounds, Array.size_setIfInBounds, HCZ.out.1]; exact Tryd.info26) ?_; rw [HCZ.out.2.2.2.2]; clear _h) | (have _h := tok9; refine wpList_store_row rfl 26 _ _ rfl w.heap.size _ rfl rfl 26 #[.int .i64 0, .int .i64 0, .string ⟨#[]⟩, .int .i64 0, .int .i64 0, .int .i64 0, .int .i64 0, .int .i64 0, .bool false, .int .i64 0, .int .i64 0, .int .i64 0, .slice none 0 0, .int .i64 0, .int .i64 0, .int .i64 0, .string ⟨#[]⟩] (HRZ.out _ _ (RdR.below HW8.out HL9.out)).1 Tryd.info26 rfl (by simp [rqc, Value.oneCell']) ?_; clear _h tok9) | (go_at_call 34; refine (HE.out _ HW6.out).mono ?_; rintro e w7 ⟨rfl, rfl⟩))
    (refine bodyPost_ret (v := .tuple #[.agg #[.int .i64 0, .int .i64 0, .string ⟨#[]⟩, .int .i64 0, .int .i64 0, .int .i64 0, .int .i64 0, .int .i64 0, .bool false, .int .i64 0, .int .i64 0, .int .i64 0, .slice none 0 0, .int .i64 0, .int .i64 0, .int .i64 0, .string ⟨#[]⟩], .int .i64 13]) ?_ rfl (HP0.out rfl _ (below_setRow (HRZ.out _ _ HW6.out).2 (Nat.le_refl _) _)); exact results_26 (p := 2) (u := 3) (by rfl) _ _ w.heap.size _ _ (by rfl) (by rfl) rfl (setRow_heap _ _ _ _ _ _ (HRZ.out _ _ HW6.out).1))
  · cases done
    · go_enter Tryd.func15, Tryd.ntmps15
      go_wp2_with (first | (have _h := tok1; go_at_call 32; refine (H1.out _ HS.out).mono ?_; rintro e w2 ⟨rfl, hw2, hk2⟩; have HW2 : Hid (RdR (w.alloc (.cells #[.int .i64 0, .int .i64 0, .string ⟨#[]⟩, .int .i64 0, .int .i64 0, .int .i64 0, .int .i64 0, .int .i64 0, .bool false, .int .i64 0, .int .i64 0, .int .i64 0, .slice none 0 0, .int .i64 0, .int .i64 0, .int .i64 0, .string ⟨#[]⟩] 26)) w2 s1) := hw2; have tok2 : True := trivial; clear hw2 hk2 _h tok1) | (have _h := tok2; go_at_call 32; refine (H2.out _ HW2.out).mono ?_; rintro e w3 ⟨rfl, hw3, hk3⟩; have HW3 : Hid (RdR (w.alloc (.cells #[.int .i64 0, .int .i64 0, .string ⟨#[]⟩, .int .i64 0, .int .i64 0, .int .i64 0, .int .i64 0, .int .i64 0, .bool false, .int .i64 0, .int .i64 0, .int .i64 0, .slice none 0 0, .int .i64 0, .int .i64 0, .int .i64 0, .string ⟨#[]⟩] 26)) w3 s2) := hw3; clear hw3 hk3 _h tok2) | (go_at_call 22; refine (HR.out _).mono ?_; rintro e w4 ⟨⟨a1, c1, rfl, hf1⟩, hb1⟩; rw [HI.out.1, HI.out.2]; have HW4 : Hid (RdR (w.alloc (.cells #[.int .i64 0, .int .i64 0, .string ⟨#[]⟩, .int .i64 0, .int .i64 0, .int .i64 0, .int .i64 0, .int .i64 0, .bool false, .int .i64 0, .int .i64 0, .int .i64 0, .slice none 0 0, .int .i64 0, .int .i64 0, .int .i64 0, .string ⟨#[]⟩] 26)) w4 s2) := RdR.below HW3.out hb1; have HFR : Hid (FRow w4 a1 (rowOr T)) := hf1; clear hf1 hb1) | (go_at_call 33; refine (HF.out _ _ _ HW4.out HFR.out).mono ?_; rintro e w5 ⟨p, X, hX, rfl, hx5, hw5, hk5⟩; have HX5 : Hid (BdX w5 X B p) := hx5; have HW5 : Hid (RdR (w.alloc (.cells #[.int .i64 0, .int .i64 0, .string ⟨#[]⟩, .int .i64 0, .int .i64 0, .int .i64 0, .int .i64 0, .int .i64 0, .bool false, .int .i64 0, .int .i64 0, .int .i64 0, .slice none 0 0, .int .i64 0, .int .i64 0, .int .i64 0, .string ⟨#[]⟩] 26)) w5 s3) := hw5; have HXX : Hid (w4.heap.size ≤ X) := hX; have HZ : Hid ((bdc B p).size = 44) := bdc_size _ _; have HONE : Hid ((bdc B p).all (·.oneCell') = true) := all_one; have HPQ2 : Hid _ := HPQ.out B p; obtain ⟨CS, HCS⟩ : ∃ CS, Hid (bdc B p = CS) := ⟨_, rfl⟩; rw [HCS.out] at HZ HONE HPQ2 ⊢; have tok5 : True := trivial; clear hx5 hw5 hX hk5) | (have _h := tok5; refine wpList_store_row rfl 66 _ _ rfl w5.heap.size CS rfl rfl 66 (List.toArray (Value.int .i64 0 :: Value.int .i64 0 :: Value.int .i64 0 :: Value.int .i64 0 :: Value.int .i64 0 :: Value.int .i64 0 :: Value.int .i64 0 :: Value.int .i64 0 :: Value.int .i64 0 :: Value.int .i64 0 :: Value.int .i64 0 :: Value.int .i64 0 :: Value.int .i64 0 :: Value.int .i64 0 :: Value.int .i64 0 :: Value.int .i64 0 :: Value.int .i64 0 :: Value.int .i64 0 :: Value.int .i64 0 :: Value.int .i64 0 :: Value.string ⟨#[]⟩ :: Value.string ⟨#[]⟩ :: Value.string ⟨#[]⟩ :: Value.string ⟨#[]⟩ :: Value.string ⟨#[]⟩ :: Value.string ⟨#[]⟩ :: Value.string ⟨#[]⟩ :: Value.string ⟨#[]⟩ :: Value.string ⟨#[]⟩ :: Value.string ⟨#[]⟩ :: Value.string ⟨#[]⟩ :: Value.string ⟨#[]⟩ :: Value.string ⟨#[]⟩ :: Value.string ⟨#[]⟩ :: Value.string ⟨#[]⟩ :: Value.string ⟨#[]⟩ :: Value.string ⟨#[]⟩ :: Value.string ⟨#[]⟩ :: Value.string ⟨#[]⟩ :: Value.string ⟨#[]⟩ :: Value.slice none 0 0 :: Value.slice none 0 0 :: Value.slice none 0 0 :: Value.slice none 0 0 :: [])) (heap_alloc_new w5 _) (by rw [HZ.out]; exact Tryd.info66) (by rw [HZ.out]; rfl) HONE.out ?_; obtain ⟨hb6, hl6⟩ := box_new w5 _ CS 66; generalize World.setRow _ w5.heap.size CS = w6 at *; have HB6 : Hid (w6.heap[w5.heap.size]? = some (.cells CS 66 (0, 0))) := hb6; have HL6 : Hid (Below w5.heap.size w5 w6) := hl6; have HW6 : Hid (RdR (w.alloc (.cells #[.int .i64 0, .int .i64 0, .string ⟨#[]⟩, .int .i64 0, .int .i64 0, .int .i64 0, .int .i64 0, .int .i64 0, .bool false, .int .i64 0, .int .i64 0, .int .i64 0, .slice none 0 0, .int .i64 0, .int .i64 0, .int .i64 0, .string ⟨#[]⟩] 26)) w6 s3) := RdR.below HW5.out hl6; have tok6 : True := trivial; clear hb6 hl6 _h tok5) | (have _h := tok6; refine wpList_load_row rfl 66 _ rfl w5.heap.size rfl 66 CS (0, 0) _ HB6.out Tryd.underlying66 rfl (by rw [HZ.out]; exact Tryd.info66) ?_; clear _h) | (have _h := tok6; refine wpList_store_row rfl 26 _ _ rfl w.heap.size #[.int .i64 0, .int .i64 0, .string ⟨#[]⟩, .int .i64 0, .int .i64 0, .int .i64 0, .int .i64 0, .int .i64 0, .bool false, .int .i64 0, .int .i64 0, .int .i64 0, .slice none 0 0, .int .i64 0, .int .i64 0, .int .i64 0, .string ⟨#[]⟩] rfl rfl 26 _ (HRZ.out _ _ HW6.out).1 Tryd.info26 rfl (by simp [Value.oneCell']) ?_; clear _h tok6) | (go_at_call 35; refine (HPQ2.out _).mono ?_; rintro e w8 ⟨rfl, hb8⟩; have HW8 : Hid (RdR (w.alloc (.cells #[.int .i64 0, .int .i64 0, .string ⟨#[]⟩, .int .i64 0, .int .i64 0, .int .i64 0, .int .i64 0, .int .i64 0, .bool false, .int .i64 0, .int .i64 0, .int .i64 0, .slice none 0 0, .int .i64 0, .int .i64 0, .int .i64 0, .string ⟨#[]⟩] 26)) w8 s3) := RdR.below HW6.out hb8; have hXX : (w.alloc (.cells #[.int .i64 0, .int .i64 0, .string ⟨#[]⟩, .int .i64 0, .int .i64 0, .int .i64 0, .int .i64 0, .int .i64 0, .bool false, .int .i64 0, .int .i64 0, .int .i64 0, .slice none 0 0, .int .i64 0, .int .i64 0, .int .i64 0, .string ⟨#[]⟩] 26)).heap.size < X := (by obtain ⟨_, _, q, _⟩ := HW4.out.box; have q1 := (Array.getElem?_eq_some_iff.1 q).1; have q2 := HXX.out; omega); have HX8 : Hid (BdX w8 X B p) := (BdX.keepB HX5.out HW5.out hXX (KeepB.of_below HL6.out)).keepB HW6.out hXX (KeepB.of_below hb8); have HX9 : Hid ((w.alloc (.cells #[.int .i64 0, .int .i64 0, .string ⟨#[]⟩, .int .i64 0, .int .i64 0, .int .i64 0, .int .i64 0, .int .i64 0, .bool false, .int .i64 0, .int .i64 0, .int .i64 0, .slice none 0 0, .int .i64 0, .int .i64 0, .int .i64 0, .string ⟨#[]⟩] 26)).heap.size < X) := hXX; obtain ⟨CQ, HCQ⟩ : ∃ CQ, Hid (rqc 0 0 B ((B 7).n == 1) p.ra p.rc = CQ) := ⟨_, rfl⟩; have HCZ : Hid (CQ.size = 17 ∧ CQ.all (·.oneCell') = true ∧ CQ[0]? = some (.int .i64 0) ∧ CQ[1]? = some (.int .i64 0) ∧ (CQ.setIfInBounds 0 (.int .i64 k)).setIfInBounds 1 (.int .i64 i) = rqc k i B ((B 7).n == 1) p.ra p.rc) := (by rw [← HCQ.out]; exact ⟨rfl, by simp [rqc, Value.oneCell'], rfl, rfl, rfl⟩); rw [HCQ.out]; have tok8 : True := trivial; clear hb8 hXX tok6) | (have _h := tok8; refine wpList_store_row rfl 26 _ _ rfl w8.heap.size CQ rfl rfl 26 #[.int .i64 0, .int .i64 0, .string ⟨#[]⟩, .int .i64 0, .int .i64 0, .int .i64 0, .int .i64 0, .int .i64 0, .bool false, .int .i64 0, .int .i64 0, .int .i64 0, .slice none 0 0, .int .i64 0, .int .i64 0, .int .i64 0, .string ⟨#[]⟩] (heap_alloc_new w8 _) (by rw [HCZ.out.1]; exact Tryd.info26) (by rw [HCZ.out.1]; rfl) HCZ.out.2.1 ?_; obtain ⟨hb9, hl9⟩ := box_new w8 #[.int .i64 0, .int .i64 0, .string ⟨#[]⟩, .int .i64 0, .int .i64 0, .int .i64 0, .int .i64 0, .int .i64 0, .bool false, .int .i64 0, .int .i64 0, .int .i64 0, .slice none 0 0, .int .i64 0, .int .i64 0, .int .i64 0, .string ⟨#[]⟩] CQ 26; generalize World.setRow _ w8.heap.size CQ = w9 at *; have q0 := (box_at hb9 0).1; have q1 := (box_at hb9 1).1; have f0 := (box_at hb9 0).2; have f1 := (box_at hb9 1).2; rw [HCZ.out.2.2.1] at q0; rw [HCZ.out.2.2.2.1] at q1; have HB9 : Hid (((w9.setCell ⟨w8.heap.size, 0, none⟩ (.int .i64 k)).setCell ⟨w8.heap.size, 1, none⟩ (.int .i64 i)).heap[w8.heap.size]? = some (.cells ((CQ.setIfInBounds 0 (.int .i64 k)).setIfInBounds 1 (.int .i64 i)) 26 (0, 0))) := two_put hb9; have HL9 : Hid (Below w8.heap.size w8 ((w9.setCell ⟨w8.heap.size, 0, none⟩ (.int .i64 k)).setCell ⟨w8.heap.size, 1, none⟩ (.int .i64 i))) := (hl9.setCell (p := ⟨w8.heap.size, 0, none⟩) (Nat.le_refl _) _).setCell (p := ⟨w8.heap.size, 1, none⟩) (Nat.le_refl _) _; have tok9 : True := trivial; clear hb9 hl9 _h tok8) | (have _h := tok9; refine wpList_load_row rfl 26 _ rfl w8.heap.size rfl 26 _ (0, 0) _ HB9.out Tryd.underlying26 rfl (by rw [Array.size_setIfInBounds, Array.size_setIfInBounds, HCZ.out.1]; exact Tryd.info26) ?_; rw [HCZ.out.2.2.2.2]; clear _h) | (have _h := tok9; refine wpList_store_row rfl 26 _ _ rfl w.heap.size _ rfl rfl 26 #[.int .i64 0, .int .i64 0, .string ⟨#[]⟩, .int .i64 0, .int .i64 0, .int .i64 0, .int .i64 0, .int .i64 0, .bool false, .int .i64 0, .int .i64 0, .int .i64 0, .slice none 0 0, .int .i64 0, .int .i64 0, .int .i64 0, .string ⟨#[]⟩] (HRZ.out _ _ (RdR.below HW8.out HL9.out)).1 Tryd.info26 rfl (by simp [rqc, Value.oneCell']) ?_; clear _h tok9) | (go_at_call 34; refine (HE.out _ HW6.out).mono ?_; rintro e w7 ⟨rfl, rfl⟩))
      (refine bodyPost_ret (v := .tuple #[.agg #[.int .i64 0, .int .i64 0, .string ⟨#[]⟩, .int .i64 0, .int .i64 0, .int .i64 0, .int .i64 0, .int .i64 0, .bool false, .int .i64 0, .int .i64 0, .int .i64 0, .slice none 0 0, .int .i64 0, .int .i64 0, .int .i64 0, .string ⟨#[]⟩], .int .i64 13]) ?_ rfl (HP0.out rfl _ (below_setRow (HRZ.out _ _ HW6.out).2 (Nat.le_refl _) _)); exact results_26 (p := 2) (u := 3) (by rfl) _ _ w.heap.size _ _ (by rfl) (by rfl) rfl (setRow_heap _ _ _ _ _ _ (HRZ.out _ _ HW6.out).1))
    · go_enter Tryd.func15, Tryd.ntmps15
      go_wp2_with (first | (have _h := tok1; go_at_call 32; refine (H1.out _ HS.out).mono ?_; rintro e w2 ⟨rfl, hw2, hk2⟩; have HW2 : Hid (RdR (w.alloc (.cells #[.int .i64 0, .int .i64 0, .string ⟨#[]⟩, .int .i64 0, .int .i64 0, .int .i64 0, .int .i64 0, .int .i64 0, .bool false, .int .i64 0, .int .i64 0, .int .i64 0, .slice none 0 0, .int .i64 0, .int .i64 0, .int .i64 0, .string ⟨#[]⟩] 26)) w2 s1) := hw2; have tok2 : True := trivial; clear hw2 hk2 _h tok1) | (have _h := tok2; go_at_call 32; refine (H2.out _ HW2.out).mono ?_; rintro e w3 ⟨rfl, hw3, hk3⟩; have HW3 : Hid (RdR (w.alloc (.cells #[.int .i64 0, .int .i64 0, .string ⟨#[]⟩, .int .i64 0, .int .i64 0, .int .i64 0, .int .i64 0, .int .i64 0, .bool false, .int .i64 0, .int .i64 0, .int .i64 0, .slice none 0 0, .int .i64 0, .int .i64 0, .int .i64 0, .string ⟨#[]⟩] 26)) w3 s2) := hw3; clear hw3 hk3 _h tok2) | (go_at_call 22; refine (HR.out _).mono ?_; rintro e w4 ⟨⟨a1, c1, rfl, hf1⟩, hb1⟩; rw [HI.out.1, HI.out.2]; have HW4 : Hid (RdR (w.alloc (.cells #[.int .i64 0, .int .i64 0, .string ⟨#[]⟩, .int .i64 0, .int .i64 0, .int .i64 0, .int .i64 0, .int .i64 0, .bool false, .int .i64 0, .int .i64 0, .int .i64 0, .slice none 0 0, .int .i64 0, .int .i64 0, .int .i64 0, .string ⟨#[]⟩] 26)) w4 s2) := RdR.below HW3.out hb1; have HFR : Hid (FRow w4 a1 (rowOr T)) := hf1; clear hf1 hb1) | (go_at_call 33; refine (HF.out _ _ _ HW4.out HFR.out).mono ?_; rintro e w5 ⟨p, X, hX, rfl, hx5, hw5, hk5⟩; have HX5 : Hid (BdX w5 X B p) := hx5; have HW5 : Hid (RdR (w.alloc (.cells #[.int .i64 0, .int .i64 0, .string ⟨#[]⟩, .int .i64 0, .int .i64 0, .int .i64 0, .int .i64 0, .int .i64 0, .bool false, .int .i64 0, .int .i64 0, .int .i64 0, .slice none 0 0, .int .i64 0, .int .i64 0, .int .i64 0, .string ⟨#[]⟩] 26)) w5 s3) := hw5; have HXX : Hid (w4.heap.size ≤ X) := hX; have HZ : Hid ((bdc B p).size = 44) := bdc_size _ _; have HONE : Hid ((bdc B p).all (·.oneCell') = true) := all_one; have HPQ2 : Hid _ := HPQ.out B p; obtain ⟨CS, HCS⟩ : ∃ CS, Hid (bdc B p = CS) := ⟨_, rfl⟩; rw [HCS.out] at HZ HONE HPQ2 ⊢; have tok5 : True := trivial; clear hx5 hw5 hX hk5) | (have _h := tok5; refine wpList_store_row rfl 66 _ _ rfl w5.heap.size CS rfl rfl 66 (List.toArray (Value.int .i64 0 :: Value.int .i64 0 :: Value.int .i64 0 :: Value.int .i64 0 :: Value.int .i64 0 :: Value.int .i64 0 :: Value.int .i64 0 :: Value.int .i64 0 :: Value.int .i64 0 :: Value.int .i64 0 :: Value.int .i64 0 :: Value.int .i64 0 :: Value.int .i64 0 :: Value.int .i64 0 :: Value.int .i64 0 :: Value.int .i64 0 :: Value.int .i64 0 :: Value.int .i64 0 :: Value.int .i64 0 :: Value.int .i64 0 :: Value.string ⟨#[]⟩ :: Value.string ⟨#[]⟩ :: Value.string ⟨#[]⟩ :: Value.string ⟨#[]⟩ :: Value.string ⟨#[]⟩ :: Value.string ⟨#[]⟩ :: Value.string ⟨#[]⟩ :: Value.string ⟨#[]⟩ :: Value.string ⟨#[]⟩ :: Value.string ⟨#[]⟩ :: Value.string ⟨#[]⟩ :: Value.string ⟨#[]⟩ :: Value.string ⟨#[]⟩ :: Value.string ⟨#[]⟩ :: Value.string ⟨#[]⟩ :: Value.string ⟨#[]⟩ :: Value.string ⟨#[]⟩ :: Value.string ⟨#[]⟩ :: Value.string ⟨#[]⟩ :: Value.string ⟨#[]⟩ :: Value.slice none 0 0 :: Value.slice none 0 0 :: Value.slice none 0 0 :: Value.slice none 0 0 :: [])) (heap_alloc_new w5 _) (by rw [HZ.out]; exact Tryd.info66) (by rw [HZ.out]; rfl) HONE.out ?_; obtain ⟨hb6, hl6⟩ := box_new w5 _ CS 66; generalize World.setRow _ w5.heap.size CS = w6 at *; have HB6 : Hid (w6.heap[w5.heap.size]? = some (.cells CS 66 (0, 0))) := hb6; have HL6 : Hid (Below w5.heap.size w5 w6) := hl6; have HW6 : Hid (RdR (w.alloc (.cells #[.int .i64 0, .int .i64 0, .string ⟨#[]⟩, .int .i64 0, .int .i64 0, .int .i64 0, .int .i64 0, .int .i64 0, .bool false, .int .i64 0, .int .i64 0, .int .i64 0, .slice none 0 0, .int .i64 0, .int .i64 0, .int .i64 0, .string ⟨#[]⟩] 26)) w6 s3) := RdR.below HW5.out hl6; have tok6 : True := trivial; clear hb6 hl6 _h tok5) | (have _h := tok6; refine wpList_load_row rfl 66 _ rfl w5.heap.size rfl 66 CS (0, 0) _ HB6.out Tryd.underlying66 rfl (by rw [HZ.out]; exact Tryd.info66) ?_; clear _h) | (have _h := tok6; refine wpList_store_row rfl 26 _ _ rfl w.heap.size #[.int .i64 0, .int .i64 0, .string ⟨#[]⟩, .int .i64 0, .int .i64 0, .int .i64 0, .int .i64 0, .int .i64 0, .bool false, .int .i64 0, .int .i64 0, .int .i64 0, .slice none 0 0, .int .i64 0, .int .i64 0, .int .i64 0, .string ⟨#[]⟩] rfl rfl 26 _ (HRZ.out _ _ HW6.out).1 Tryd.info26 rfl (by simp [Value.oneCell']) ?_; clear _h tok6) | (go_at_call 35; refine (HPQ2.out _).mono ?_; rintro e w8 ⟨rfl, hb8⟩; have HW8 : Hid (RdR (w.alloc (.cells #[.int .i64 0, .int .i64 0, .string ⟨#[]⟩, .int .i64 0, .int .i64 0, .int .i64 0, .int .i64 0, .int .i64 0, .bool false, .int .i64 0, .int .i64 0, .int .i64 0, .slice none 0 0, .int .i64 0, .int .i64 0, .int .i64 0, .string ⟨#[]⟩] 26)) w8 s3) := RdR.below HW6.out hb8; have hXX : (w.alloc (.cells #[.int .i64 0, .int .i64 0, .string ⟨#[]⟩, .int .i64 0, .int .i64 0, .int .i64 0, .int .i64 0, .int .i64 0, .bool false, .int .i64 0, .int .i64 0, .int .i64 0, .slice none 0 0, .int .i64 0, .int .i64 0, .int .i64 0, .string ⟨#[]⟩] 26)).heap.size < X := (by obtain ⟨_, _, q, _⟩ := HW4.out.box; have q1 := (Array.getElem?_eq_some_iff.1 q).1; have q2 := HXX.out; omega); have HX8 : Hid (BdX w8 X B p) := (BdX.keepB HX5.out HW5.out hXX (KeepB.of_below HL6.out)).keepB HW6.out hXX (KeepB.of_below hb8); have HX9 : Hid ((w.alloc (.cells #[.int .i64 0, .int .i64 0, .string ⟨#[]⟩, .int .i64 0, .int .i64 0, .int .i64 0, .int .i64 0, .int .i64 0, .bool false, .int .i64 0, .int .i64 0, .int .i64 0, .slice none 0 0, .int .i64 0, .int .i64 0, .int .i64 0, .string ⟨#[]⟩] 26)).heap.size < X) := hXX; obtain ⟨CQ, HCQ⟩ : ∃ CQ, Hid (rqc 0 0 B ((B 7).n == 1) p.ra p.rc = CQ) := ⟨_, rfl⟩; have HCZ : Hid (CQ.size = 17 ∧ CQ.all (·.oneCell') = true ∧ CQ[0]? = some (.int .i64 0) ∧ CQ[1]? = some (.int .i64 0) ∧ (CQ.setIfInBounds 0 (.int .i64 k)).setIfInBounds 1 (.int .i64 i) = rqc k i B ((B 7).n == 1) p.ra p.rc) := (by rw [← HCQ.out]; exact ⟨rfl, by simp [rqc, Value.oneCell'], rfl, rfl, rfl⟩); rw [HCQ.out]; have tok8 : True := trivial; clear hb8 hXX tok6) | (have _h := tok8; refine wpList_store_row rfl 26 _ _ rfl w8.heap.size CQ rfl rfl 26 #[.int .i64 0, .int .i64 0, .string ⟨#[]⟩, .int .i64 0, .int .i64 0, .int .i64 0, .int .i64 0, .int .i64 0, .bool false, .int .i64 0, .int .i64 0, .int .i64 0, .slice none 0 0, .int .i64 0, .int .i64 0, .int .i64 0, .string ⟨#[]⟩] (heap_alloc_new w8 _) (by rw [HCZ.out.1]; exact Tryd.info26) (by rw [HCZ.out.1]; rfl) HCZ.out.2.1 ?_; obtain ⟨hb9, hl9⟩ := box_new w8 #[.int .i64 0, .int .i64 0, .string ⟨#[]⟩, .int .i64 0, .int .i64 0, .int .i64 0, .int .i64 0, .int .i64 0, .bool false, .int .i64 0, .int .i64 0, .int .i64 0, .slice none 0 0, .int .i64 0, .int .i64 0, .int .i64 0, .string ⟨#[]⟩] CQ 26; generalize World.setRow _ w8.heap.size CQ = w9 at *; have q0 := (box_at hb9 0).1; have q1 := (box_at hb9 1).1; have f0 := (box_at hb9 0).2; have f1 := (box_at hb9 1).2; rw [HCZ.out.2.2.1] at q0; rw [HCZ.out.2.2.2.1] at q1; have HB9 : Hid (((w9.setCell ⟨w8.heap.size, 0, none⟩ (.int .i64 k)).setCell ⟨w8.heap.size, 1, none⟩ (.int .i64 i)).heap[w8.heap.size]? = some (.cells ((CQ.setIfInBounds 0 (.int .i64 k)).setIfInBounds 1 (.int .i64 i)) 26 (0, 0))) := two_put hb9; have HL9 : Hid (Below w8.heap.size w8 ((w9.setCell ⟨w8.heap.size, 0, none⟩ (.int .i64 k)).setCell ⟨w8.heap.size, 1, none⟩ (.int .i64 i))) := (hl9.setCell (p := ⟨w8.heap.size, 0, none⟩) (Nat.le_refl _) _).setCell (p := ⟨w8.heap.size, 1, none⟩) (Nat.le_refl _) _; have tok9 : True := trivial; clear hb9 hl9 _h tok8) | (have _h := tok9; refine wpList_load_row rfl 26 _ rfl w8.heap.size rfl 26 _ (0, 0) _ HB9.out Tryd.underlying26 rfl (by rw [Array.size_setIfInBounds, Array.size_setIfInBounds, HCZ.out.1]; exact Tryd.info26) ?_; rw [HCZ.out.2.2.2.2]; clear _h) | (have _h := tok9; refine wpList_store_row rfl 26 _ _ rfl w.heap.size _ rfl rfl 26 #[.int .i64 0, .int .i64 0, .string ⟨#[]⟩, .int .i64 0, .int .i64 0, .int .i64 0, .int .i64 0, .int .i64 0, .bool false, .int .i64 0, .int .i64 0, .int .i64 0, .slice none 0 0, .int .i64 0, .int .i64 0, .int .i64 0, .string ⟨#[]⟩] (HRZ.out _ _ (RdR.below HW8.out HL9.out)).1 Tryd.info26 rfl (by simp [rqc, Value.oneCell']) ?_; clear _h tok9) | (go_at_call 34; refine (HE.out _ HW6.out).mono ?_; rintro e w7 ⟨rfl, rfl⟩))
      have hR9 := RdR.below HW8.out HL9.out
      have hX9 : w.heap.size + 1 < X := by have := HX9.out; rw [HYS.out] at this; exact this
      refine bodyPost_ret (v := .tuple #[.agg (rqc k i B ((B 7).n == 1) p.ra p.rc), .int .i64 0]) ?_ rfl (HP1.out rfl p X _ hX9 ((BdX.keepB HX8.out HW8.out HX9.out (KeepB.of_below HL9.out)).off (HRZ.out _ _ hR9).1 z26_no (by omega)) (below_setRow (HRZ.out _ _ hR9).2 (Nat.le_refl _) _))
      exact results_26 (p := 2) (u := 3) (by rfl) _ _ w.heap.size _ _ (by rfl) (by rfl) rfl (setRow_heap _ _ _ _ _ _ (HRZ.out _ _ hR9).1)
/-- What ParseRequest tells. -/
def QP (t : Option (Int × Int × Bd)) (w : World) (e : Ending) (w' : World) : Prop := Below w.heap.size w w' ∧ (t = none → e = .returned (.tuple #[.agg z26, .int .i64 13])) ∧ ∀ k i b, t = some (k, i, b) → ∃ p X, w.heap.size + 1 < X ∧ e = .returned (.tuple #[.agg (rqc k i b ((b 7).n == 1) p.ra p.rc), .int .i64 0]) ∧ BdX w' X b p
theorem rowOr_ok {T : Option (List Nat)} (h : ∀ r, T = some r → r.Nodup ∧ ∀ f, f ∈ r → f < 20) : (rowOr T).Nodup ∧ ∀ f, f ∈ rowOr T → f < 20 := by
  cases T with
  | none => exact ⟨List.nodup_nil, fun f hf => by cases hf⟩
  | some r => exact h r rfl
theorem parseQ_any (w : World) (a : Option Addr) (cap : Nat) (l : List Nat) (ht : Tab w) (hr : Row w a l) (hl : l.length ≤ cap) (hc : cap ≤ maxLen) (hn : a = none → cap = 0) (hbig : l.length ≤ 1000000000000) :
    Calls Tryd.prog 15 #[.slice a l.length cap] w (QP (reqP l) w) := by
  have hys : (w.alloc (.cells #[.int .i64 0, .int .i64 0, .string ⟨#[]⟩, .int .i64 0, .int .i64 0, .int .i64 0, .int .i64 0, .int .i64 0, .bool false, .int .i64 0, .int .i64 0, .int .i64 0, .slice none 0 0, .int .i64 0, .int .i64 0, .int .i64 0, .string ⟨#[]⟩] 26)).heap.size = w.heap.size + 1 := by simp
  have htY : Tab (w.alloc (.cells #[.int .i64 0, .int .i64 0, .string ⟨#[]⟩, .int .i64 0, .int .i64 0, .int .i64 0, .int .i64 0, .int .i64 0, .bool false, .int .i64 0, .int .i64 0, .int .i64 0, .slice none 0 0, .int .i64 0, .int .i64 0, .int .i64 0, .string ⟨#[]⟩] 26)) := ht.below (below_box _)
  refine parseQ_in w a cap l (gNat 1 (some l)).1 (gNat 4 (gNat 1 (some l)).2).1 (rowQ (gNat 1 (some l)).1) _ _ (decide ((reqS l).2 = some [])) (gNat 1 (some l)).2 (gNat 4 (gNat 1 (some l)).2).2 (reqS l).2 (reqS l).1.2.2 _ (RdR.new _ a cap l (hr.below (below_box _)) hl hc hn hbig) ⟨rfl, rfl⟩ ?_ ?_ (fun x => rowOf_any 0 _ (.inl rfl) x) ?_ ?_ ?_ ?_
  · intro x hx
    have q := rnat_any _ x (some l) 1 1 rfl (by decide) (by decide) hx
    rw [hys] at q
    exact q
  · intro x hx
    have q := rnat_any _ x _ 4 4 rfl (by decide) (by decide) hx
    rw [hys] at q
    exact q
  · intro x a2 c2 hx hf
    obtain ⟨q1, q2⟩ := rowOr_ok (T := rowQ (gNat 1 (some l)).1) (fun r e => rowQ_ok e)
    have q := rfields_any _ x _ a2 c2 _ htY rowQ_len q2 q1 hf hx
    rw [hys] at q
    exact q
  · intro x hx
    have q := ended_any _ x _ hx
    rw [hys] at q
    exact q
  · intro hno w' hb
    have e : reqP l = none := by
      unfold reqP
      rw [if_neg]
      rintro ⟨q1, q2⟩
      rw [show (reqS l).1.1 = (gNat 1 (some l)).1 from rfl] at q1
      rw [q1, q2] at hno
      simp at hno
    rw [e]
    exact ⟨hb, fun _ => rfl, fun k i b q => by cases q⟩
  · intro hyes p X w' hX hx hb
    have e : reqP l = some (reqS l).1 := by
      unfold reqP
      simp only [Bool.and_eq_true, decide_eq_true_eq] at hyes
      rw [if_pos ⟨hyes.1, hyes.2⟩]
    rw [e]
    refine ⟨hb, fun q => (by cases q), fun k i b q => ?_⟩
    simp only [Option.some.injEq] at q
    have q1 : k = (reqS l).1.1 := by rw [q]
    have q2 : i = (reqS l).1.2.1 := by rw [q]
    have q3 : b = (reqS l).1.2.2 := by rw [q]
    subst q1 q2 q3
    exact ⟨p, X, hX, rfl, hx⟩
end Go.Proofs.YtaooidckmepdeaaDoor
namespace Go.Proofs.YtaooidckmepdeaaDoor
set_option linter.unusedSimpArgs false
set_option linter.unusedVariables false
open Go.RowKit
def z40 : Array Value := #[.int .i64 0, .int .i64 0, .int .i64 0, .int .i64 0, .int .i64 0, .int .i64 0, .slice none 0 0, .slice none 0 0, .slice none 0 0]
theorem z40_no : ∀ (j : Nat) (v : Bool) (u : ByteArray), z40[j]? = some (.bool v) → z40[j + 1]? = some (.string u) → False := by
  intro j v u h1 h2
  have hj : j < 9 := by have := (Array.getElem?_eq_some_iff.1 h1).1; simpa [z40] using this
  unfold z40 at h1 h2
  rcases j with _ | _ | _ | _ | _ | _ | _ | _ | _ | j <;> simp at h1 h2
theorem ansRow_len {k c : Int} : (rowOr (ansRow k c)).length ≤ 7 := by
  unfold ansRow rowA
  repeat' split
  all_goals first | decide | simp [rowOr] | (rename_i h; cases h)
/-- What ParseResponse tells. -/
def SP (t : Option (Int × Int × Int × Bd)) (w : World) (e : Ending) (w' : World) : Prop := Below w.heap.size w w' ∧ (t = none → e = .returned (.tuple #[.agg z40, .int .i64 13])) ∧ ∀ k i d b, t = some (k, i, d, b) → ∃ p X, w.heap.size + 1 < X ∧ e = .returned (.tuple #[.agg (rsc k i d b p), .int .i64 0]) ∧ BdX w' X b p
set_option maxRecDepth 100000 in
set_option maxHeartbeats 2000000 in
theorem parseS_in (w : World) (a : Option Addr) (cap : Nat) (l : List Nat) (k i d : Int) (T : Option (List Nat)) (n : Nat) (ok done : Bool) (s1 s2 s2' s3 : Ls) (B : Bd) (P : Ending → World → Prop)
    (HS : Hid (RdR (w.alloc (.cells #[.int .i64 0, .int .i64 0, .int .i64 0, .int .i64 0, .int .i64 0, .int .i64 0, .slice none 0 0, .slice none 0 0, .slice none 0 0] 40)) ((w.alloc (.cells #[.int .i64 0, .int .i64 0, .int .i64 0, .int .i64 0, .int .i64 0, .int .i64 0, .slice none 0 0, .slice none 0 0, .slice none 0 0] 40)).alloc (.cells #[.slice a l.length cap, .bool false] 89)) (some l)))
    (HI : Hid (T.isSome = ok ∧ (rowOr T).length = n))
    (H1 : Hid (∀ x, RdR (w.alloc (.cells #[.int .i64 0, .int .i64 0, .int .i64 0, .int .i64 0, .int .i64 0, .int .i64 0, .slice none 0 0, .slice none 0 0, .slice none 0 0] 40)) x (some l) → Calls Tryd.prog 32 #[(.pointer (some ⟨w.heap.size + 1, 0, none⟩)), .int .i64 1] x (RP (w.alloc (.cells #[.int .i64 0, .int .i64 0, .int .i64 0, .int .i64 0, .int .i64 0, .int .i64 0, .slice none 0 0, .slice none 0 0, .slice none 0 0] 40)) x (.int .i64 k) s1)))
    (H2 : Hid (∀ x, RdR (w.alloc (.cells #[.int .i64 0, .int .i64 0, .int .i64 0, .int .i64 0, .int .i64 0, .int .i64 0, .slice none 0 0, .slice none 0 0, .slice none 0 0] 40)) x s1 → Calls Tryd.prog 32 #[(.pointer (some ⟨w.heap.size + 1, 0, none⟩)), .int .i64 4] x (RP (w.alloc (.cells #[.int .i64 0, .int .i64 0, .int .i64 0, .int .i64 0, .int .i64 0, .int .i64 0, .slice none 0 0, .slice none 0 0, .slice none 0 0] 40)) x (.int .i64 i) s2)))
    (H3 : Hid (∀ x, RdR (w.alloc (.cells #[.int .i64 0, .int .i64 0, .int .i64 0, .int .i64 0, .int .i64 0, .int .i64 0, .slice none 0 0, .slice none 0 0, .slice none 0 0] 40)) x s2 → Calls Tryd.prog 32 #[(.pointer (some ⟨w.heap.size + 1, 0, none⟩)), .int .i64 1] x (RP (w.alloc (.cells #[.int .i64 0, .int .i64 0, .int .i64 0, .int .i64 0, .int .i64 0, .int .i64 0, .slice none 0 0, .slice none 0 0, .slice none 0 0] 40)) x (.int .i64 d) s2')))
    (HR : Hid (∀ x, Calls Tryd.prog 36 #[.int .i64 k, .int .i64 d] x (RowP T x)))
    (HF : Hid (∀ x a c, RdR (w.alloc (.cells #[.int .i64 0, .int .i64 0, .int .i64 0, .int .i64 0, .int .i64 0, .int .i64 0, .slice none 0 0, .slice none 0 0, .slice none 0 0] 40)) x s2' → FRow x a (rowOr T) → Calls Tryd.prog 33 #[(.pointer (some ⟨w.heap.size + 1, 0, none⟩)), .slice a n c] x (FsP (w.alloc (.cells #[.int .i64 0, .int .i64 0, .int .i64 0, .int .i64 0, .int .i64 0, .int .i64 0, .slice none 0 0, .slice none 0 0, .slice none 0 0] 40)) x B s3)))
    (HE : Hid (∀ x, RdR (w.alloc (.cells #[.int .i64 0, .int .i64 0, .int .i64 0, .int .i64 0, .int .i64 0, .int .i64 0, .slice none 0 0, .slice none 0 0, .slice none 0 0] 40)) x s3 → Calls Tryd.prog 34 #[(.pointer (some ⟨w.heap.size + 1, 0, none⟩))] x fun e w' => e = .returned (.bool done) ∧ w' = x))
    (HP0 : Hid ((ok && done) = false → ∀ w', Below w.heap.size w w' → P (.returned (.tuple #[.agg #[.int .i64 0, .int .i64 0, .int .i64 0, .int .i64 0, .int .i64 0, .int .i64 0, .slice none 0 0, .slice none 0 0, .slice none 0 0], .int .i64 13])) w'))
    (HP1 : Hid ((ok && done) = true → ∀ p X w', w.heap.size + 1 < X → BdX w' X B p → Below w.heap.size w w' → P (.returned (.tuple #[.agg (rsc k i d B p), .int .i64 0])) w')) :
    Calls Tryd.prog 18 #[.slice a l.length cap] w P := by
  have HYS : Hid ((w.alloc (.cells #[.int .i64 0, .int .i64 0, .int .i64 0, .int .i64 0, .int .i64 0, .int .i64 0, .slice none 0 0, .slice none 0 0, .slice none 0 0] 40)).heap.size = w.heap.size + 1) := by show _ = _; simp
  have HYB : Hid (Below w.heap.size w (w.alloc (.cells #[.int .i64 0, .int .i64 0, .int .i64 0, .int .i64 0, .int .i64 0, .int .i64 0, .slice none 0 0, .slice none 0 0, .slice none 0 0] 40))) := below_box _
  have HRZ : Hid (∀ x st, RdR (w.alloc (.cells #[.int .i64 0, .int .i64 0, .int .i64 0, .int .i64 0, .int .i64 0, .int .i64 0, .slice none 0 0, .slice none 0 0, .slice none 0 0] 40)) x st → x.heap[w.heap.size]? = some (.cells #[.int .i64 0, .int .i64 0, .int .i64 0, .int .i64 0, .int .i64 0, .int .i64 0, .slice none 0 0, .slice none 0 0, .slice none 0 0] 40 (0, 0)) ∧ Below w.heap.size w x) := fun x st h => ⟨(h.bel.block w.heap.size (by simp)).trans (heap_alloc_new w _), HYB.out.trans (h.bel.mono (by simp))⟩
  have HPQ : Hid (∀ b p x, Calls Tryd.prog 38 #[.agg (bdc b p)] x fun e w' => e = .returned (.agg (rsc 0 0 0 b p)) ∧ Below x.heap.size x w') := fun b p x => response_of b p x
  have tok1 : True := trivial
  cases ok
  · go_enter Tryd.func18, Tryd.ntmps18
    go_wp2_with (first | (have _h := tok1; go_at_call 32; refine (H1.out _ HS.out).mono ?_; rintro e w2 ⟨rfl, hw2, hk2⟩; have HW2 : Hid (RdR (w.alloc (.cells #[.int .i64 0, .int .i64 0, .int .i64 0, .int .i64 0, .int .i64 0, .int .i64 0, .slice none 0 0, .slice none 0 0, .slice none 0 0] 40)) w2 s1) := hw2; have tok2 : True := trivial; clear hw2 hk2 _h tok1) | (have _h := tok2; go_at_call 32; refine (H2.out _ HW2.out).mono ?_; rintro e w3 ⟨rfl, hw3, hk3⟩; have HW3' : Hid (RdR (w.alloc (.cells #[.int .i64 0, .int .i64 0, .int .i64 0, .int .i64 0, .int .i64 0, .int .i64 0, .slice none 0 0, .slice none 0 0, .slice none 0 0] 40)) w3 s2) := hw3; have tok3 : True := trivial; clear hw3 hk3 _h tok2) | (have _h := tok3; go_at_call 32; refine (H3.out _ HW3'.out).mono ?_; rintro e w3' ⟨rfl, hw3, hk3⟩; have HW3 : Hid (RdR (w.alloc (.cells #[.int .i64 0, .int .i64 0, .int .i64 0, .int .i64 0, .int .i64 0, .int .i64 0, .slice none 0 0, .slice none 0 0, .slice none 0 0] 40)) w3' s2') := hw3; clear hw3 hk3 _h tok3) | (go_at_call 36; refine (HR.out _).mono ?_; rintro e w4 ⟨⟨a1, c1, rfl, hf1⟩, hb1⟩; rw [HI.out.1, HI.out.2]; have HW4 : Hid (RdR (w.alloc (.cells #[.int .i64 0, .int .i64 0, .int .i64 0, .int .i64 0, .int .i64 0, .int .i64 0, .slice none 0 0, .slice none 0 0, .slice none 0 0] 40)) w4 s2') := RdR.below HW3.out hb1; have HFR : Hid (FRow w4 a1 (rowOr T)) := hf1; clear hf1 hb1) | (go_at_call 33; refine (HF.out _ _ _ HW4.out HFR.out).mono ?_; rintro e w5 ⟨p, X, hX, rfl, hx5, hw5, hk5⟩; have HX5 : Hid (BdX w5 X B p) := hx5; have HW5 : Hid (RdR (w.alloc (.cells #[.int .i64 0, .int .i64 0, .int .i64 0, .int .i64 0, .int .i64 0, .int .i64 0, .slice none 0 0, .slice none 0 0, .slice none 0 0] 40)) w5 s3) := hw5; have HXX : Hid (w4.heap.size ≤ X) := hX; have HZ : Hid ((bdc B p).size = 44) := bdc_size _ _; have HONE : Hid ((bdc B p).all (·.oneCell') = true) := all_one; have HPQ2 : Hid _ := HPQ.out B p; obtain ⟨CS, HCS⟩ : ∃ CS, Hid (bdc B p = CS) := ⟨_, rfl⟩; rw [HCS.out] at HZ HONE HPQ2 ⊢; have tok5 : True := trivial; clear hx5 hw5 hX hk5) | (have _h := tok5; refine wpList_store_row rfl 66 _ _ rfl w5.heap.size CS rfl rfl 66 (List.toArray (Value.int .i64 0 :: Value.int .i64 0 :: Value.int .i64 0 :: Value.int .i64 0 :: Value.int .i64 0 :: Value.int .i64 0 :: Value.int .i64 0 :: Value.int .i64 0 :: Value.int .i64 0 :: Value.int .i64 0 :: Value.int .i64 0 :: Value.int .i64 0 :: Value.int .i64 0 :: Value.int .i64 0 :: Value.int .i64 0 :: Value.int .i64 0 :: Value.int .i64 0 :: Value.int .i64 0 :: Value.int .i64 0 :: Value.int .i64 0 :: Value.string ⟨#[]⟩ :: Value.string ⟨#[]⟩ :: Value.string ⟨#[]⟩ :: Value.string ⟨#[]⟩ :: Value.string ⟨#[]⟩ :: Value.string ⟨#[]⟩ :: Value.string ⟨#[]⟩ :: Value.string ⟨#[]⟩ :: Value.string ⟨#[]⟩ :: Value.string ⟨#[]⟩ :: Value.string ⟨#[]⟩ :: Value.string ⟨#[]⟩ :: Value.string ⟨#[]⟩ :: Value.string ⟨#[]⟩ :: Value.string ⟨#[]⟩ :: Value.string ⟨#[]⟩ :: Value.string ⟨#[]⟩ :: Value.string ⟨#[]⟩ :: Value.string ⟨#[]⟩ :: Value.string ⟨#[]⟩ :: Value.slice none 0 0 :: Value.slice none 0 0 :: Value.slice none 0 0 :: Value.slice none 0 0 :: [])) (heap_alloc_new w5 _) (by rw [HZ.out]; exact Tryd.info66) (by rw [HZ.out]; rfl) HONE.out ?_; obtain ⟨hb6, hl6⟩ := box_new w5 _ CS 66; generalize World.setRow _ w5.heap.size CS = w6 at *; have HB6 : Hid (w6.heap[w5.heap.size]? = some (.cells CS 66 (0, 0))) := hb6; have HL6 : Hid (Below w5.heap.size w5 w6) := hl6; have HW6 : Hid (RdR (w.alloc (.cells #[.int .i64 0, .int .i64 0, .int .i64 0, .int .i64 0, .int .i64 0, .int .i64 0, .slice none 0 0, .slice none 0 0, .slice none 0 0] 40)) w6 s3) := RdR.below HW5.out hl6; have tok6 : True := trivial; clear hb6 hl6 _h tok5) | (have _h := tok6; refine wpList_load_row rfl 66 _ rfl w5.heap.size rfl 66 CS (0, 0) _ HB6.out Tryd.underlying66 rfl (by rw [HZ.out]; exact Tryd.info66) ?_; clear _h) | (have _h := tok6; refine wpList_store_row rfl 40 _ _ rfl w.heap.size #[.int .i64 0, .int .i64 0, .int .i64 0, .int .i64 0, .int .i64 0, .int .i64 0, .slice none 0 0, .slice none 0 0, .slice none 0 0] rfl rfl 40 _ (HRZ.out _ _ HW6.out).1 Tryd.info40 rfl (by simp [Value.oneCell']) ?_; clear _h tok6) | (go_at_call 38; refine (HPQ2.out _).mono ?_; rintro e w8 ⟨rfl, hb8⟩; have HW8 : Hid (RdR (w.alloc (.cells #[.int .i64 0, .int .i64 0, .int .i64 0, .int .i64 0, .int .i64 0, .int .i64 0, .slice none 0 0, .slice none 0 0, .slice none 0 0] 40)) w8 s3) := RdR.below HW6.out hb8; have hXX : (w.alloc (.cells #[.int .i64 0, .int .i64 0, .int .i64 0, .int .i64 0, .int .i64 0, .int .i64 0, .slice none 0 0, .slice none 0 0, .slice none 0 0] 40)).heap.size < X := (by obtain ⟨_, _, q, _⟩ := HW4.out.box; have q1 := (Array.getElem?_eq_some_iff.1 q).1; have q2 := HXX.out; omega); have HX8 : Hid (BdX w8 X B p) := (BdX.keepB HX5.out HW5.out hXX (KeepB.of_below HL6.out)).keepB HW6.out hXX (KeepB.of_below hb8); have HX9 : Hid ((w.alloc (.cells #[.int .i64 0, .int .i64 0, .int .i64 0, .int .i64 0, .int .i64 0, .int .i64 0, .slice none 0 0, .slice none 0 0, .slice none 0 0] 40)).heap.size < X) := hXX; obtain ⟨CQ, HCQ⟩ : ∃ CQ, Hid (rsc 0 0 0 B p = CQ) := ⟨_, rfl⟩; have HCZ : Hid (CQ.size = 9 ∧ CQ.all (·.oneCell') = true ∧ CQ[0]? = some (.int .i64 0) ∧ CQ[1]? = some (.int .i64 0) ∧ CQ[2]? = some (.int .i64 0) ∧ ((CQ.setIfInBounds 0 (.int .i64 k)).setIfInBounds 1 (.int .i64 i)).setIfInBounds 2 (.int .i64 d) = rsc k i d B p) := (by rw [← HCQ.out]; exact ⟨rfl, by simp [rsc, Value.oneCell'], rfl, rfl, rfl, rfl⟩); rw [HCQ.out]; have tok8 : True := trivial; clear hb8 hXX tok6) | (have _h := tok8; refine wpList_store_row rfl 40 _ _ rfl w8.heap.size CQ rfl rfl 40 #[.int .i64 0, .int .i64 0, .int .i64 0, .int .i64 0, .int .i64 0, .int .i64 0, .slice none 0 0, .slice none 0 0, .slice none 0 0] (heap_alloc_new w8 _) (by rw [HCZ.out.1]; exact Tryd.info40) (by rw [HCZ.out.1]; rfl) HCZ.out.2.1 ?_; obtain ⟨hb9, hl9⟩ := box_new w8 #[.int .i64 0, .int .i64 0, .int .i64 0, .int .i64 0, .int .i64 0, .int .i64 0, .slice none 0 0, .slice none 0 0, .slice none 0 0] CQ 40; generalize World.setRow _ w8.heap.size CQ = w9 at *; have q0 := (box_at hb9 0).1; have q1 := (box_at hb9 1).1; have f0 := (box_at hb9 0).2; have f1 := (box_at hb9 1).2; have q2 := (box_at hb9 2).1; have f2 := (box_at hb9 2).2; rw [HCZ.out.2.2.2.2.1] at q2; rw [HCZ.out.2.2.1] at q0; rw [HCZ.out.2.2.2.1] at q1; have HB9 : Hid ((((w9.setCell ⟨w8.heap.size, 0, none⟩ (.int .i64 k)).setCell ⟨w8.heap.size, 1, none⟩ (.int .i64 i)).setCell ⟨w8.heap.size, 2, none⟩ (.int .i64 d)).heap[w8.heap.size]? = some (.cells (((CQ.setIfInBounds 0 (.int .i64 k)).setIfInBounds 1 (.int .i64 i)).setIfInBounds 2 (.int .i64 d)) 40 (0, 0))) := one_put (two_put hb9) 2 _; have HL9 : Hid (Below w8.heap.size w8 (((w9.setCell ⟨w8.heap.size, 0, none⟩ (.int .i64 k)).setCell ⟨w8.heap.size, 1, none⟩ (.int .i64 i)).setCell ⟨w8.heap.size, 2, none⟩ (.int .i64 d))) := (hl9.setCell (p := ⟨w8.heap.size, 0, none⟩) (Nat.le_refl _) _).setCell (p := ⟨w8.heap.size, 1, none⟩) (Nat.le_refl _) _ |>.setCell (p := ⟨w8.heap.size, 2, none⟩) (Nat.le_refl _) _; have tok9 : True := trivial; clear hb9 hl9 _h tok8) | (have _h := tok9; refine wpList_load_row rfl 40 _ rfl w8.heap.size rfl 40 _ (0, 0) _ HB9.out Tryd.underlying40 rfl (by rw [Array.size_setIfInBounds, Array.size_setIfInBounds, Array.size_setIfInBounds, HCZ.out.1]; exact Tryd.info40) ?_; rw [HCZ.out.2.2.2.2.2]; clear _h) | (have _h := tok9; refine wpList_store_row rfl 40 _ _ rfl w.heap.size _ rfl rfl 40 #[.int .i64 0, .int .i64 0, .int .i64 0, .int .i64 0, .int .i64 0, .int .i64 0, .slice none 0 0, .slice none 0 0, .slice none 0 0] (HRZ.out _ _ (RdR.below HW8.out HL9.out)).1 Tryd.info40 rfl (by simp [rsc, Value.oneCell']) ?_; clear _h tok9) | (go_at_call 34; refine (HE.out _ HW6.out).mono ?_; rintro e w7 ⟨rfl, rfl⟩))
    (refine bodyPost_ret (v := .tuple #[.agg #[.int .i64 0, .int .i64 0, .int .i64 0, .int .i64 0, .int .i64 0, .int .i64 0, .slice none 0 0, .slice none 0 0, .slice none 0 0], .int .i64 13]) ?_ rfl (HP0.out rfl _ (below_setRow (HRZ.out _ _ HW6.out).2 (Nat.le_refl _) _)); exact results_40 (p := 2) (u := 3) (by rfl) _ _ w.heap.size _ _ (by rfl) (by rfl) rfl (setRow_heap _ _ _ _ _ _ (HRZ.out _ _ HW6.out).1))
  · cases done
    · go_enter Tryd.func18, Tryd.ntmps18
      go_wp2_with (first | (have _h := tok1; go_at_call 32; refine (H1.out _ HS.out).mono ?_; rintro e w2 ⟨rfl, hw2, hk2⟩; have HW2 : Hid (RdR (w.alloc (.cells #[.int .i64 0, .int .i64 0, .int .i64 0, .int .i64 0, .int .i64 0, .int .i64 0, .slice none 0 0, .slice none 0 0, .slice none 0 0] 40)) w2 s1) := hw2; have tok2 : True := trivial; clear hw2 hk2 _h tok1) | (have _h := tok2; go_at_call 32; refine (H2.out _ HW2.out).mono ?_; rintro e w3 ⟨rfl, hw3, hk3⟩; have HW3' : Hid (RdR (w.alloc (.cells #[.int .i64 0, .int .i64 0, .int .i64 0, .int .i64 0, .int .i64 0, .int .i64 0, .slice none 0 0, .slice none 0 0, .slice none 0 0] 40)) w3 s2) := hw3; have tok3 : True := trivial; clear hw3 hk3 _h tok2) | (have _h := tok3; go_at_call 32; refine (H3.out _ HW3'.out).mono ?_; rintro e w3' ⟨rfl, hw3, hk3⟩; have HW3 : Hid (RdR (w.alloc (.cells #[.int .i64 0, .int .i64 0, .int .i64 0, .int .i64 0, .int .i64 0, .int .i64 0, .slice none 0 0, .slice none 0 0, .slice none 0 0] 40)) w3' s2') := hw3; clear hw3 hk3 _h tok3) | (go_at_call 36; refine (HR.out _).mono ?_; rintro e w4 ⟨⟨a1, c1, rfl, hf1⟩, hb1⟩; rw [HI.out.1, HI.out.2]; have HW4 : Hid (RdR (w.alloc (.cells #[.int .i64 0, .int .i64 0, .int .i64 0, .int .i64 0, .int .i64 0, .int .i64 0, .slice none 0 0, .slice none 0 0, .slice none 0 0] 40)) w4 s2') := RdR.below HW3.out hb1; have HFR : Hid (FRow w4 a1 (rowOr T)) := hf1; clear hf1 hb1) | (go_at_call 33; refine (HF.out _ _ _ HW4.out HFR.out).mono ?_; rintro e w5 ⟨p, X, hX, rfl, hx5, hw5, hk5⟩; have HX5 : Hid (BdX w5 X B p) := hx5; have HW5 : Hid (RdR (w.alloc (.cells #[.int .i64 0, .int .i64 0, .int .i64 0, .int .i64 0, .int .i64 0, .int .i64 0, .slice none 0 0, .slice none 0 0, .slice none 0 0] 40)) w5 s3) := hw5; have HXX : Hid (w4.heap.size ≤ X) := hX; have HZ : Hid ((bdc B p).size = 44) := bdc_size _ _; have HONE : Hid ((bdc B p).all (·.oneCell') = true) := all_one; have HPQ2 : Hid _ := HPQ.out B p; obtain ⟨CS, HCS⟩ : ∃ CS, Hid (bdc B p = CS) := ⟨_, rfl⟩; rw [HCS.out] at HZ HONE HPQ2 ⊢; have tok5 : True := trivial; clear hx5 hw5 hX hk5) | (have _h := tok5; refine wpList_store_row rfl 66 _ _ rfl w5.heap.size CS rfl rfl 66 (List.toArray (Value.int .i64 0 :: Value.int .i64 0 :: Value.int .i64 0 :: Value.int .i64 0 :: Value.int .i64 0 :: Value.int .i64 0 :: Value.int .i64 0 :: Value.int .i64 0 :: Value.int .i64 0 :: Value.int .i64 0 :: Value.int .i64 0 :: Value.int .i64 0 :: Value.int .i64 0 :: Value.int .i64 0 :: Value.int .i64 0 :: Value.int .i64 0 :: Value.int .i64 0 :: Value.int .i64 0 :: Value.int .i64 0 :: Value.int .i64 0 :: Value.string ⟨#[]⟩ :: Value.string ⟨#[]⟩ :: Value.string ⟨#[]⟩ :: Value.string ⟨#[]⟩ :: Value.string ⟨#[]⟩ :: Value.string ⟨#[]⟩ :: Value.string ⟨#[]⟩ :: Value.string ⟨#[]⟩ :: Value.string ⟨#[]⟩ :: Value.string ⟨#[]⟩ :: Value.string ⟨#[]⟩ :: Value.string ⟨#[]⟩ :: Value.string ⟨#[]⟩ :: Value.string ⟨#[]⟩ :: Value.string ⟨#[]⟩ :: Value.string ⟨#[]⟩ :: Value.string ⟨#[]⟩ :: Value.string ⟨#[]⟩ :: Value.string ⟨#[]⟩ :: Value.string ⟨#[]⟩ :: Value.slice none 0 0 :: Value.slice none 0 0 :: Value.slice none 0 0 :: Value.slice none 0 0 :: [])) (heap_alloc_new w5 _) (by rw [HZ.out]; exact Tryd.info66) (by rw [HZ.out]; rfl) HONE.out ?_; obtain ⟨hb6, hl6⟩ := box_new w5 _ CS 66; generalize World.setRow _ w5.heap.size CS = w6 at *; have HB6 : Hid (w6.heap[w5.heap.size]? = some (.cells CS 66 (0, 0))) := hb6; have HL6 : Hid (Below w5.heap.size w5 w6) := hl6; have HW6 : Hid (RdR (w.alloc (.cells #[.int .i64 0, .int .i64 0, .int .i64 0, .int .i64 0, .int .i64 0, .int .i64 0, .slice none 0 0, .slice none 0 0, .slice none 0 0] 40)) w6 s3) := RdR.below HW5.out hl6; have tok6 : True := trivial; clear hb6 hl6 _h tok5) | (have _h := tok6; refine wpList_load_row rfl 66 _ rfl w5.heap.size rfl 66 CS (0, 0) _ HB6.out Tryd.underlying66 rfl (by rw [HZ.out]; exact Tryd.info66) ?_; clear _h) | (have _h := tok6; refine wpList_store_row rfl 40 _ _ rfl w.heap.size #[.int .i64 0, .int .i64 0, .int .i64 0, .int .i64 0, .int .i64 0, .int .i64 0, .slice none 0 0, .slice none 0 0, .slice none 0 0] rfl rfl 40 _ (HRZ.out _ _ HW6.out).1 Tryd.info40 rfl (by simp [Value.oneCell']) ?_; clear _h tok6) | (go_at_call 38; refine (HPQ2.out _).mono ?_; rintro e w8 ⟨rfl, hb8⟩; have HW8 : Hid (RdR (w.alloc (.cells #[.int .i64 0, .int .i64 0, .int .i64 0, .int .i64 0, .int .i64 0, .int .i64 0, .slice none 0 0, .slice none 0 0, .slice none 0 0] 40)) w8 s3) := RdR.below HW6.out hb8; have hXX : (w.alloc (.cells #[.int .i64 0, .int .i64 0, .int .i64 0, .int .i64 0, .int .i64 0, .int .i64 0, .slice none 0 0, .slice none 0 0, .slice none 0 0] 40)).heap.size < X := (by obtain ⟨_, _, q, _⟩ := HW4.out.box; have q1 := (Array.getElem?_eq_some_iff.1 q).1; have q2 := HXX.out; omega); have HX8 : Hid (BdX w8 X B p) := (BdX.keepB HX5.out HW5.out hXX (KeepB.of_below HL6.out)).keepB HW6.out hXX (KeepB.of_below hb8); have HX9 : Hid ((w.alloc (.cells #[.int .i64 0, .int .i64 0, .int .i64 0, .int .i64 0, .int .i64 0, .int .i64 0, .slice none 0 0, .slice none 0 0, .slice none 0 0] 40)).heap.size < X) := hXX; obtain ⟨CQ, HCQ⟩ : ∃ CQ, Hid (rsc 0 0 0 B p = CQ) := ⟨_, rfl⟩; have HCZ : Hid (CQ.size = 9 ∧ CQ.all (·.oneCell') = true ∧ CQ[0]? = some (.int .i64 0) ∧ CQ[1]? = some (.int .i64 0) ∧ CQ[2]? = some (.int .i64 0) ∧ ((CQ.setIfInBounds 0 (.int .i64 k)).setIfInBounds 1 (.int .i64 i)).setIfInBounds 2 (.int .i64 d) = rsc k i d B p) := (by rw [← HCQ.out]; exact ⟨rfl, by simp [rsc, Value.oneCell'], rfl, rfl, rfl, rfl⟩); rw [HCQ.out]; have tok8 : True := trivial; clear hb8 hXX tok6) | (have _h := tok8; refine wpList_store_row rfl 40 _ _ rfl w8.heap.size CQ rfl rfl 40 #[.int .i64 0, .int .i64 0, .int .i64 0, .int .i64 0, .int .i64 0, .int .i64 0, .slice none 0 0, .slice none 0 0, .slice none 0 0] (heap_alloc_new w8 _) (by rw [HCZ.out.1]; exact Tryd.info40) (by rw [HCZ.out.1]; rfl) HCZ.out.2.1 ?_; obtain ⟨hb9, hl9⟩ := box_new w8 #[.int .i64 0, .int .i64 0, .int .i64 0, .int .i64 0, .int .i64 0, .int .i64 0, .slice none 0 0, .slice none 0 0, .slice none 0 0] CQ 40; generalize World.setRow _ w8.heap.size CQ = w9 at *; have q0 := (box_at hb9 0).1; have q1 := (box_at hb9 1).1; have f0 := (box_at hb9 0).2; have f1 := (box_at hb9 1).2; have q2 := (box_at hb9 2).1; have f2 := (box_at hb9 2).2; rw [HCZ.out.2.2.2.2.1] at q2; rw [HCZ.out.2.2.1] at q0; rw [HCZ.out.2.2.2.1] at q1; have HB9 : Hid ((((w9.setCell ⟨w8.heap.size, 0, none⟩ (.int .i64 k)).setCell ⟨w8.heap.size, 1, none⟩ (.int .i64 i)).setCell ⟨w8.heap.size, 2, none⟩ (.int .i64 d)).heap[w8.heap.size]? = some (.cells (((CQ.setIfInBounds 0 (.int .i64 k)).setIfInBounds 1 (.int .i64 i)).setIfInBounds 2 (.int .i64 d)) 40 (0, 0))) := one_put (two_put hb9) 2 _; have HL9 : Hid (Below w8.heap.size w8 (((w9.setCell ⟨w8.heap.size, 0, none⟩ (.int .i64 k)).setCell ⟨w8.heap.size, 1, none⟩ (.int .i64 i)).setCell ⟨w8.heap.size, 2, none⟩ (.int .i64 d))) := (hl9.setCell (p := ⟨w8.heap.size, 0, none⟩) (Nat.le_refl _) _).setCell (p := ⟨w8.heap.size, 1, none⟩) (Nat.le_refl _) _ |>.setCell (p := ⟨w8.heap.size, 2, none⟩) (Nat.le_refl _) _; have tok9 : True := trivial; clear hb9 hl9 _h tok8) | (have _h := tok9; refine wpList_load_row rfl 40 _ rfl w8.heap.size rfl 40 _ (0, 0) _ HB9.out Tryd.underlying40 rfl (by rw [Array.size_setIfInBounds, Array.size_setIfInBounds, Array.size_setIfInBounds, HCZ.out.1]; exact Tryd.info40) ?_; rw [HCZ.out.2.2.2.2.2]; clear _h) | (have _h := tok9; refine wpList_store_row rfl 40 _ _ rfl w.heap.size _ rfl rfl 40 #[.int .i64 0, .int .i64 0, .int .i64 0, .int .i64 0, .int .i64 0, .int .i64 0, .slice none 0 0, .slice none 0 0, .slice none 0 0] (HRZ.out _ _ (RdR.below HW8.out HL9.out)).1 Tryd.info40 rfl (by simp [rsc, Value.oneCell']) ?_; clear _h tok9) | (go_at_call 34; refine (HE.out _ HW6.out).mono ?_; rintro e w7 ⟨rfl, rfl⟩))
      (refine bodyPost_ret (v := .tuple #[.agg #[.int .i64 0, .int .i64 0, .int .i64 0, .int .i64 0, .int .i64 0, .int .i64 0, .slice none 0 0, .slice none 0 0, .slice none 0 0], .int .i64 13]) ?_ rfl (HP0.out rfl _ (below_setRow (HRZ.out _ _ HW6.out).2 (Nat.le_refl _) _)); exact results_40 (p := 2) (u := 3) (by rfl) _ _ w.heap.size _ _ (by rfl) (by rfl) rfl (setRow_heap _ _ _ _ _ _ (HRZ.out _ _ HW6.out).1))
    · go_enter Tryd.func18, Tryd.ntmps18
      go_wp2_with (first | (have _h := tok1; go_at_call 32; refine (H1.out _ HS.out).mono ?_; rintro e w2 ⟨rfl, hw2, hk2⟩; have HW2 : Hid (RdR (w.alloc (.cells #[.int .i64 0, .int .i64 0, .int .i64 0, .int .i64 0, .int .i64 0, .int .i64 0, .slice none 0 0, .slice none 0 0, .slice none 0 0] 40)) w2 s1) := hw2; have tok2 : True := trivial; clear hw2 hk2 _h tok1) | (have _h := tok2; go_at_call 32; refine (H2.out _ HW2.out).mono ?_; rintro e w3 ⟨rfl, hw3, hk3⟩; have HW3' : Hid (RdR (w.alloc (.cells #[.int .i64 0, .int .i64 0, .int .i64 0, .int .i64 0, .int .i64 0, .int .i64 0, .slice none 0 0, .slice none 0 0, .slice none 0 0] 40)) w3 s2) := hw3; have tok3 : True := trivial; clear hw3 hk3 _h tok2) | (have _h := tok3; go_at_call 32; refine (H3.out _ HW3'.out).mono ?_; rintro e w3' ⟨rfl, hw3, hk3⟩; have HW3 : Hid (RdR (w.alloc (.cells #[.int .i64 0, .int .i64 0, .int .i64 0, .int .i64 0, .int .i64 0, .int .i64 0, .slice none 0 0, .slice none 0 0, .slice none 0 0] 40)) w3' s2') := hw3; clear hw3 hk3 _h tok3) | (go_at_call 36; refine (HR.out _).mono ?_; rintro e w4 ⟨⟨a1, c1, rfl, hf1⟩, hb1⟩; rw [HI.out.1, HI.out.2]; have HW4 : Hid (RdR (w.alloc (.cells #[.int .i64 0, .int .i64 0, .int .i64 0, .int .i64 0, .int .i64 0, .int .i64 0, .slice none 0 0, .slice none 0 0, .slice none 0 0] 40)) w4 s2') := RdR.below HW3.out hb1; have HFR : Hid (FRow w4 a1 (rowOr T)) := hf1; clear hf1 hb1) | (go_at_call 33; refine (HF.out _ _ _ HW4.out HFR.out).mono ?_; rintro e w5 ⟨p, X, hX, rfl, hx5, hw5, hk5⟩; have HX5 : Hid (BdX w5 X B p) := hx5; have HW5 : Hid (RdR (w.alloc (.cells #[.int .i64 0, .int .i64 0, .int .i64 0, .int .i64 0, .int .i64 0, .int .i64 0, .slice none 0 0, .slice none 0 0, .slice none 0 0] 40)) w5 s3) := hw5; have HXX : Hid (w4.heap.size ≤ X) := hX; have HZ : Hid ((bdc B p).size = 44) := bdc_size _ _; have HONE : Hid ((bdc B p).all (·.oneCell') = true) := all_one; have HPQ2 : Hid _ := HPQ.out B p; obtain ⟨CS, HCS⟩ : ∃ CS, Hid (bdc B p = CS) := ⟨_, rfl⟩; rw [HCS.out] at HZ HONE HPQ2 ⊢; have tok5 : True := trivial; clear hx5 hw5 hX hk5) | (have _h := tok5; refine wpList_store_row rfl 66 _ _ rfl w5.heap.size CS rfl rfl 66 (List.toArray (Value.int .i64 0 :: Value.int .i64 0 :: Value.int .i64 0 :: Value.int .i64 0 :: Value.int .i64 0 :: Value.int .i64 0 :: Value.int .i64 0 :: Value.int .i64 0 :: Value.int .i64 0 :: Value.int .i64 0 :: Value.int .i64 0 :: Value.int .i64 0 :: Value.int .i64 0 :: Value.int .i64 0 :: Value.int .i64 0 :: Value.int .i64 0 :: Value.int .i64 0 :: Value.int .i64 0 :: Value.int .i64 0 :: Value.int .i64 0 :: Value.string ⟨#[]⟩ :: Value.string ⟨#[]⟩ :: Value.string ⟨#[]⟩ :: Value.string ⟨#[]⟩ :: Value.string ⟨#[]⟩ :: Value.string ⟨#[]⟩ :: Value.string ⟨#[]⟩ :: Value.string ⟨#[]⟩ :: Value.string ⟨#[]⟩ :: Value.string ⟨#[]⟩ :: Value.string ⟨#[]⟩ :: Value.string ⟨#[]⟩ :: Value.string ⟨#[]⟩ :: Value.string ⟨#[]⟩ :: Value.string ⟨#[]⟩ :: Value.string ⟨#[]⟩ :: Value.string ⟨#[]⟩ :: Value.string ⟨#[]⟩ :: Value.string ⟨#[]⟩ :: Value.string ⟨#[]⟩ :: Value.slice none 0 0 :: Value.slice none 0 0 :: Value.slice none 0 0 :: Value.slice none 0 0 :: [])) (heap_alloc_new w5 _) (by rw [HZ.out]; exact Tryd.info66) (by rw [HZ.out]; rfl) HONE.out ?_; obtain ⟨hb6, hl6⟩ := box_new w5 _ CS 66; generalize World.setRow _ w5.heap.size CS = w6 at *; have HB6 : Hid (w6.heap[w5.heap.size]? = some (.cells CS 66 (0, 0))) := hb6; have HL6 : Hid (Below w5.heap.size w5 w6) := hl6; have HW6 : Hid (RdR (w.alloc (.cells #[.int .i64 0, .int .i64 0, .int .i64 0, .int .i64 0, .int .i64 0, .int .i64 0, .slice none 0 0, .slice none 0 0, .slice none 0 0] 40)) w6 s3) := RdR.below HW5.out hl6; have tok6 : True := trivial; clear hb6 hl6 _h tok5) | (have _h := tok6; refine wpList_load_row rfl 66 _ rfl w5.heap.size rfl 66 CS (0, 0) _ HB6.out Tryd.underlying66 rfl (by rw [HZ.out]; exact Tryd.info66) ?_; clear _h) | (have _h := tok6; refine wpList_store_row rfl 40 _ _ rfl w.heap.size #[.int .i64 0, .int .i64 0, .int .i64 0, .int .i64 0, .int .i64 0, .int .i64 0, .slice none 0 0, .slice none 0 0, .slice none 0 0] rfl rfl 40 _ (HRZ.out _ _ HW6.out).1 Tryd.info40 rfl (by simp [Value.oneCell']) ?_; clear _h tok6) | (go_at_call 38; refine (HPQ2.out _).mono ?_; rintro e w8 ⟨rfl, hb8⟩; have HW8 : Hid (RdR (w.alloc (.cells #[.int .i64 0, .int .i64 0, .int .i64 0, .int .i64 0, .int .i64 0, .int .i64 0, .slice none 0 0, .slice none 0 0, .slice none 0 0] 40)) w8 s3) := RdR.below HW6.out hb8; have hXX : (w.alloc (.cells #[.int .i64 0, .int .i64 0, .int .i64 0, .int .i64 0, .int .i64 0, .int .i64 0, .slice none 0 0, .slice none 0 0, .slice none 0 0] 40)).heap.size < X := (by obtain ⟨_, _, q, _⟩ := HW4.out.box; have q1 := (Array.getElem?_eq_some_iff.1 q).1; have q2 := HXX.out; omega); have HX8 : Hid (BdX w8 X B p) := (BdX.keepB HX5.out HW5.out hXX (KeepB.of_below HL6.out)).keepB HW6.out hXX (KeepB.of_below hb8); have HX9 : Hid ((w.alloc (.cells #[.int .i64 0, .int .i64 0, .int .i64 0, .int .i64 0, .int .i64 0, .int .i64 0, .slice none 0 0, .slice none 0 0, .slice none 0 0] 40)).heap.size < X) := hXX; obtain ⟨CQ, HCQ⟩ : ∃ CQ, Hid (rsc 0 0 0 B p = CQ) := ⟨_, rfl⟩; have HCZ : Hid (CQ.size = 9 ∧ CQ.all (·.oneCell') = true ∧ CQ[0]? = some (.int .i64 0) ∧ CQ[1]? = some (.int .i64 0) ∧ CQ[2]? = some (.int .i64 0) ∧ ((CQ.setIfInBounds 0 (.int .i64 k)).setIfInBounds 1 (.int .i64 i)).setIfInBounds 2 (.int .i64 d) = rsc k i d B p) := (by rw [← HCQ.out]; exact ⟨rfl, by simp [rsc, Value.oneCell'], rfl, rfl, rfl, rfl⟩); rw [HCQ.out]; have tok8 : True := trivial; clear hb8 hXX tok6) | (have _h := tok8; refine wpList_store_row rfl 40 _ _ rfl w8.heap.size CQ rfl rfl 40 #[.int .i64 0, .int .i64 0, .int .i64 0, .int .i64 0, .int .i64 0, .int .i64 0, .slice none 0 0, .slice none 0 0, .slice none 0 0] (heap_alloc_new w8 _) (by rw [HCZ.out.1]; exact Tryd.info40) (by rw [HCZ.out.1]; rfl) HCZ.out.2.1 ?_; obtain ⟨hb9, hl9⟩ := box_new w8 #[.int .i64 0, .int .i64 0, .int .i64 0, .int .i64 0, .int .i64 0, .int .i64 0, .slice none 0 0, .slice none 0 0, .slice none 0 0] CQ 40; generalize World.setRow _ w8.heap.size CQ = w9 at *; have q0 := (box_at hb9 0).1; have q1 := (box_at hb9 1).1; have f0 := (box_at hb9 0).2; have f1 := (box_at hb9 1).2; have q2 := (box_at hb9 2).1; have f2 := (box_at hb9 2).2; rw [HCZ.out.2.2.2.2.1] at q2; rw [HCZ.out.2.2.1] at q0; rw [HCZ.out.2.2.2.1] at q1; have HB9 : Hid ((((w9.setCell ⟨w8.heap.size, 0, none⟩ (.int .i64 k)).setCell ⟨w8.heap.size, 1, none⟩ (.int .i64 i)).setCell ⟨w8.heap.size, 2, none⟩ (.int .i64 d)).heap[w8.heap.size]? = some (.cells (((CQ.setIfInBounds 0 (.int .i64 k)).setIfInBounds 1 (.int .i64 i)).setIfInBounds 2 (.int .i64 d)) 40 (0, 0))) := one_put (two_put hb9) 2 _; have HL9 : Hid (Below w8.heap.size w8 (((w9.setCell ⟨w8.heap.size, 0, none⟩ (.int .i64 k)).setCell ⟨w8.heap.size, 1, none⟩ (.int .i64 i)).setCell ⟨w8.heap.size, 2, none⟩ (.int .i64 d))) := (hl9.setCell (p := ⟨w8.heap.size, 0, none⟩) (Nat.le_refl _) _).setCell (p := ⟨w8.heap.size, 1, none⟩) (Nat.le_refl _) _ |>.setCell (p := ⟨w8.heap.size, 2, none⟩) (Nat.le_refl _) _; have tok9 : True := trivial; clear hb9 hl9 _h tok8) | (have _h := tok9; refine wpList_load_row rfl 40 _ rfl w8.heap.size rfl 40 _ (0, 0) _ HB9.out Tryd.underlying40 rfl (by rw [Array.size_setIfInBounds, Array.size_setIfInBounds, Array.size_setIfInBounds, HCZ.out.1]; exact Tryd.info40) ?_; rw [HCZ.out.2.2.2.2.2]; clear _h) | (have _h := tok9; refine wpList_store_row rfl 40 _ _ rfl w.heap.size _ rfl rfl 40 #[.int .i64 0, .int .i64 0, .int .i64 0, .int .i64 0, .int .i64 0, .int .i64 0, .slice none 0 0, .slice none 0 0, .slice none 0 0] (HRZ.out _ _ (RdR.below HW8.out HL9.out)).1 Tryd.info40 rfl (by simp [rsc, Value.oneCell']) ?_; clear _h tok9) | (go_at_call 34; refine (HE.out _ HW6.out).mono ?_; rintro e w7 ⟨rfl, rfl⟩))
      have hR9 := RdR.below HW8.out HL9.out
      have hX9 : w.heap.size + 1 < X := by have := HX9.out; rw [HYS.out] at this; exact this
      refine bodyPost_ret (v := .tuple #[.agg (rsc k i d B p), .int .i64 0]) ?_ rfl (HP1.out rfl p X _ hX9 ((BdX.keepB HX8.out HW8.out HX9.out (KeepB.of_below HL9.out)).off (HRZ.out _ _ hR9).1 z40_no (by omega)) (below_setRow (HRZ.out _ _ hR9).2 (Nat.le_refl _) _))
      exact results_40 (p := 2) (u := 3) (by rfl) _ _ w.heap.size _ _ (by rfl) (by rfl) rfl (setRow_heap _ _ _ _ _ _ (HRZ.out _ _ hR9).1)
theorem parseS_any (w : World) (a : Option Addr) (cap : Nat) (l : List Nat) (ht : Tab w) (hr : Row w a l) (hl : l.length ≤ cap) (hc : cap ≤ maxLen) (hn : a = none → cap = 0) (hbig : l.length ≤ 1000000000000) :
    Calls Tryd.prog 18 #[.slice a l.length cap] w (SP (resP l) w) := by
  have hys : (w.alloc (.cells #[.int .i64 0, .int .i64 0, .int .i64 0, .int .i64 0, .int .i64 0, .int .i64 0, .slice none 0 0, .slice none 0 0, .slice none 0 0] 40)).heap.size = w.heap.size + 1 := by simp
  have htY : Tab (w.alloc (.cells #[.int .i64 0, .int .i64 0, .int .i64 0, .int .i64 0, .int .i64 0, .int .i64 0, .slice none 0 0, .slice none 0 0, .slice none 0 0] 40)) := ht.below (below_box _)
  refine parseS_in w a cap l (gNat 1 (some l)).1 (gNat 4 (gNat 1 (some l)).2).1 (gNat 1 (gNat 4 (gNat 1 (some l)).2).2).1 (ansRow (gNat 1 (some l)).1 (gNat 1 (gNat 4 (gNat 1 (some l)).2).2).1) _ _ (decide ((resS l).2 = some [])) (gNat 1 (some l)).2 (gNat 4 (gNat 1 (some l)).2).2 (gNat 1 (gNat 4 (gNat 1 (some l)).2).2).2 (resS l).2 (resS l).1.2.2.2 _ (RdR.new _ a cap l (hr.below (below_box _)) hl hc hn hbig) ⟨rfl, rfl⟩ ?_ ?_ ?_ (fun x => answerRow_any _ _ x) ?_ ?_ ?_ ?_
  · intro x hx
    have q := rnat_any _ x (some l) 1 1 rfl (by decide) (by decide) hx
    rw [hys] at q
    exact q
  · intro x hx
    have q := rnat_any _ x _ 4 4 rfl (by decide) (by decide) hx
    rw [hys] at q
    exact q
  · intro x hx
    have q := rnat_any _ x _ 1 1 rfl (by decide) (by decide) hx
    rw [hys] at q
    exact q
  · intro x a2 c2 hx hf
    obtain ⟨q1, q2⟩ := rowOr_ok (T := ansRow (gNat 1 (some l)).1 (gNat 1 (gNat 4 (gNat 1 (some l)).2).2).1) (fun r e => ansRow_ok e)
    have q := rfields_any _ x _ a2 c2 _ htY ansRow_len q2 q1 hf hx
    rw [hys] at q
    exact q
  · intro x hx
    have q := ended_any _ x _ hx
    rw [hys] at q
    exact q
  · intro hno w' hb
    have e : resP l = none := by
      unfold resP
      rw [if_neg]
      rintro ⟨q1, q2⟩
      rw [show ansRow (resS l).1.1 (resS l).1.2.2.1 = ansRow (gNat 1 (some l)).1 (gNat 1 (gNat 4 (gNat 1 (some l)).2).2).1 from rfl] at q1
      rw [q1, q2] at hno
      simp at hno
    rw [e]
    exact ⟨hb, fun _ => rfl, fun k i d b q => by cases q⟩
  · intro hyes p X w' hX hx hb
    have e : resP l = some (resS l).1 := by
      unfold resP
      simp only [Bool.and_eq_true, decide_eq_true_eq] at hyes
      rw [if_pos ⟨hyes.1, hyes.2⟩]
    rw [e]
    refine ⟨hb, fun q => (by cases q), fun k i d b q => ?_⟩
    simp only [Option.some.injEq] at q
    have q1 : k = (resS l).1.1 := by rw [q]
    have q2 : i = (resS l).1.2.1 := by rw [q]
    have q3 : d = (resS l).1.2.2.1 := by rw [q]
    have q4 : b = (resS l).1.2.2.2 := by rw [q]
    subst q1 q2 q3 q4
    exact ⟨p, X, hX, rfl, hx⟩
end Go.Proofs.YtaooidckmepdeaaDoor
namespace Go.Proofs.YtaooidckmepdeaaDoor
set_option linter.unusedSimpArgs false
set_option linter.unusedVariables false
open Go.RowKit
/-- No rows in it. -/
theorem bdok_plain {b : Bd} (w : World) (ht : Tab w) (h11 : (b 11).rs = []) (h17 : (b 17).nm = []) (h18 : (b 18).ct = []) (h19 : (b 19).bs = []) (ht2 : ∀ f, (b f).t.size ≤ 9223372036854775807) (hf : In64 (b 7).n) : BdOk w b (ptR none 0) := by
  refine ⟨ht, ?_, ?_, ?_, ⟨?_, ?_⟩, ?_, ?_, ?_, ?_, ?_, ?_, ?_, ht2, hf⟩
  · intro i hi; rw [h11] at hi; cases hi
  · intro i hi; rw [h17] at hi; cases hi
  · intro i hi; rw [h18] at hi; cases hi
  · intro i hi; cases hi
  · intro i hi; cases hi
  · rw [h19]; rfl
  · rw [h11]; decide
  · rw [h17]; decide
  · rw [h18]; decide
  · exact Nat.zero_le _
  · intro i hi; rw [h11] at hi; cases hi
  · intro i hi; rw [h17] at hi; cases hi
def bA : Bd := setB bdz 0 (vt ⟨#[97]⟩)
theorem vb_setT {t : ByteArray} : VB (setB bdz 0 (vt t)) := by
  refine ⟨fun f hf => ?_, fun f hf => ?_⟩
  · by_cases e : f = 0
    · subst e; simp [setB, kd, VK, vt]
    · have : setB bdz 0 (vt t) f = fz := by simp [setB, e, bdz]
      rw [this]
      rcases kd_cases f with q | q | q | q | q | q | q <;> rw [q] <;> simp [VK, fz, vn, vt, vr', vm, vc, vb, In64]
  · have e : f ≠ 0 := by omega
    simp [setB, e, bdz]
theorem bA_q : RqB bA false := ⟨vb_setT, rfl, rfl, rfl, rfl, rfl, rfl⟩
theorem bA_e : reqE 2 7 bA = some [2, 0, 0, 0, 7, 0, 1, 97] := by decide +kernel
theorem two_no : reqP [2] = none := by
  cases h : reqP [2] with
  | none => rfl
  | some x =>
    have : (reqP [2]).isNone = true := by decide +kernel
    rw [h] at this
    cases this
theorem EncP.some {L : List Nat} {w w' : World} {e : Ending} (h : EncP (some L) w e w') : ∃ a c, e = .returned (.tuple #[.slice a L.length c, .int .i64 0]) ∧ Row w' a L ∧ (a = none → c = 0) ∧ L.length ≤ c ∧ Below w.heap.size w w' := by
  obtain ⟨⟨v, z, rfl, hv, _⟩, hb⟩ := h
  obtain ⟨rfl, ho, hy, _⟩ := hv L rfl
  obtain ⟨a, c, rfl, hr, hn⟩ := owns_sl ho (lt_mem hy)
  refine ⟨a, c, rfl, hr, hn, ?_, hb⟩
  rcases ho.2 with ⟨e, h0⟩ | ⟨g, cap, cur, e, hB, hg, hle, _⟩
  · injection e; omega
  · injection e with e1 e2 e3; omega
end Go.Proofs.YtaooidckmepdeaaDoor
namespace Go.Proofs.YtaooidckmepdeaaDoor
set_option linter.unusedSimpArgs false
set_option linter.unusedVariables false
open Go.RowKit
theorem below_drewN {B : Nat} {a w : World} (h : Below B a w) (n : Nat) : Below B a (w.drewN n) := by
  induction n with
  | zero => exact h
  | succ k ih => exact ih.drew
set_option maxHeartbeats 400000 in
set_option maxRecDepth 100000 in
theorem aw_q : ∀ x, Tab x → Calls Tryd.prog 11 #[.agg #[.int .i64 2, .int .i64 7, .string ⟨#[97]⟩, .int .i64 0, .int .i64 0, .int .i64 0, .int .i64 0, .int .i64 0, .bool false, .int .i64 0, .int .i64 0, .int .i64 0, .slice none 0 0, .int .i64 0, .int .i64 0, .int .i64 0, .string ⟨#[]⟩]] x fun e w' => ∃ a c, e = .returned (.tuple #[.slice a 8 c, .int .i64 0]) ∧ Row w' a [2, 0, 0, 0, 7, 0, 1, 97] ∧ Below x.heap.size x w' := fun x hx => by
    have q := request_any 2 7 bA false none 0 x (by unfold In64; decide) (by unfold In64; decide) bA_q (bdok_plain x hx rfl rfl rfl rfl (fun f => by unfold bA setB bdz; split <;> decide) (by unfold In64; decide))
    rw [bA_e] at q
    refine Calls.mono q ?_
    intro e w' h
    obtain ⟨a, c, e1, r, _, _, b⟩ := EncP.some h
    exact ⟨a, c, e1, r, b⟩
set_option maxHeartbeats 400000 in
set_option maxRecDepth 100000 in
theorem aw_p : ∀ y, Tab y → Calls Tryd.prog 15 #[.slice (some ⟨y.heap.size, 0, none⟩) 1 1] (y.alloc (.cells #[.int .u8 2] 5)) fun e w' => e = .returned (.tuple #[.agg #[.int .i64 0, .int .i64 0, .string ⟨#[]⟩, .int .i64 0, .int .i64 0, .int .i64 0, .int .i64 0, .int .i64 0, .bool false, .int .i64 0, .int .i64 0, .int .i64 0, .slice none 0 0, .int .i64 0, .int .i64 0, .int .i64 0, .string ⟨#[]⟩], .int .i64 13]) ∧ Below y.heap.size y w' := fun y hy => by
    have q := parseQ_any (y.alloc (.cells #[.int .u8 2] 5)) (some ⟨y.heap.size, 0, none⟩) 1 [2] (hy.below (below_box _)) (head_row y 2 (by decide)).1 (by decide) (by decide) (fun e => by cases e) (by decide)
    rw [two_no] at q
    refine Calls.mono q ?_
    rintro e w' ⟨hb, h1, _⟩
    exact ⟨h1 rfl, (below_box _).trans (hb.mono (by simp))⟩
set_option maxHeartbeats 400000 in
set_option maxRecDepth 100000 in
theorem aw_b : ∀ y a c, Row y a [2, 0, 0, 0, 7, 0, 1, 97] → Calls Tryd.prog 13 #[.slice a 8 c, .slice (some ⟨y.heap.size, 0, none⟩) 8 8] (y.alloc (.cells #[.int .u8 2, .int .u8 0, .int .u8 0, .int .u8 0, .int .u8 7, .int .u8 0, .int .u8 1, .int .u8 97] 5)) fun e w' => e = .returned (.bool true) ∧ Below y.heap.size y w' := fun y a c hr => by
    have q := bytes_any a c [2, 0, 0, 0, 7, 0, 1, 97] (some ⟨y.heap.size, 0, none⟩) 8 [2, 0, 0, 0, 7, 0, 1, 97] (y.alloc (.cells #[.int .u8 2, .int .u8 0, .int .u8 0, .int .u8 0, .int .u8 7, .int .u8 0, .int .u8 1, .int .u8 97] 5)) (hr.below (below_box _)) (row_alloc y [2, 0, 0, 0, 7, 0, 1, 97] (lt_mem (by decide))) (by decide) (by decide)
    refine Calls.mono q ?_
    rintro e w' h
    exact (by obtain ⟨e1, n, rfl⟩ := h; exact ⟨by rw [e1]; rfl, below_drewN (below_box _) n⟩)
set_option maxHeartbeats 400000 in
set_option maxRecDepth 100000 in
theorem awake_any (w : World) (ht : Tab w) : Calls Tryd.prog 10 #[] w fun e w' => e = .returned (.bool true) ∧ Below w.heap.size w w' := by
  have HQ : Hid (∀ x, Tab x → Calls Tryd.prog 11 #[.agg #[.int .i64 2, .int .i64 7, .string ⟨#[97]⟩, .int .i64 0, .int .i64 0, .int .i64 0, .int .i64 0, .int .i64 0, .bool false, .int .i64 0, .int .i64 0, .int .i64 0, .slice none 0 0, .int .i64 0, .int .i64 0, .int .i64 0, .string ⟨#[]⟩]] x fun e w' => ∃ a c, e = .returned (.tuple #[.slice a 8 c, .int .i64 0]) ∧ Row w' a [2, 0, 0, 0, 7, 0, 1, 97] ∧ Below x.heap.size x w') := aw_q
  have HP : Hid (∀ y, Tab y → Calls Tryd.prog 15 #[.slice (some ⟨y.heap.size, 0, none⟩) 1 1] (y.alloc (.cells #[.int .u8 2] 5)) fun e w' => e = .returned (.tuple #[.agg #[.int .i64 0, .int .i64 0, .string ⟨#[]⟩, .int .i64 0, .int .i64 0, .int .i64 0, .int .i64 0, .int .i64 0, .bool false, .int .i64 0, .int .i64 0, .int .i64 0, .slice none 0 0, .int .i64 0, .int .i64 0, .int .i64 0, .string ⟨#[]⟩], .int .i64 13]) ∧ Below y.heap.size y w') := aw_p
  have HB : Hid (∀ y a c, Row y a [2, 0, 0, 0, 7, 0, 1, 97] → Calls Tryd.prog 13 #[.slice a 8 c, .slice (some ⟨y.heap.size, 0, none⟩) 8 8] (y.alloc (.cells #[.int .u8 2, .int .u8 0, .int .u8 0, .int .u8 0, .int .u8 7, .int .u8 0, .int .u8 1, .int .u8 97] 5)) fun e w' => e = .returned (.bool true) ∧ Below y.heap.size y w') := aw_b
  obtain ⟨CZ, HCZ⟩ : ∃ CZ : Array Value, Hid (#[.int .i64 0, .int .i64 0, .string ⟨#[]⟩, .int .i64 0, .int .i64 0, .int .i64 0, .int .i64 0, .int .i64 0, .bool false, .int .i64 0, .int .i64 0, .int .i64 0, .slice none 0 0, .int .i64 0, .int .i64 0, .int .i64 0, .string ⟨#[]⟩] = CZ) := ⟨_, rfl⟩
  have HZ1 : Hid (CZ.size = 17) := by rw [← HCZ.out]; rfl
  have HZ2 : Hid (CZ.all (·.oneCell') = true) := by show _ = _; rw [← HCZ.out]; kernel_rfl
  rw [HCZ.out] at HP
  have HT : Hid (Tab w) := ht
  clear ht
  go_enter Tryd.func10, Tryd.ntmps10
  go_wp2_with (first
    | (go_at_call 11; refine (HQ.out _ HT.out).mono ?_; rintro e w1 ⟨a1, c1, rfl, hr1, hb1⟩; have HR1 : Hid (Row w1 a1 [2, 0, 0, 0, 7, 0, 1, 97]) := hr1; have HB1 : Hid (Below w.heap.size w w1) := hb1; have HT1 : Hid (Tab w1) := HT.out.below hb1; clear hr1 hb1)
    | (go_at_call 15; refine (HP.out _ HT1.out).mono ?_; rintro e w2 ⟨rfl, hb2⟩; have HR2 : Hid (Row w2 a1 [2, 0, 0, 0, 7, 0, 1, 97]) := HR1.out.below hb2; have HB2 : Hid (Below w.heap.size w w2) := HB1.out.trans (hb2.mono HB1.out.size); have tok2 : True := trivial; clear hb2)
    | (have _h := tok2; refine wpList_store_row rfl 26 _ _ rfl w2.heap.size CZ rfl rfl 26 #[.int .i64 0, .int .i64 0, .string ⟨#[]⟩, .int .i64 0, .int .i64 0, .int .i64 0, .int .i64 0, .int .i64 0, .bool false, .int .i64 0, .int .i64 0, .int .i64 0, .slice none 0 0, .int .i64 0, .int .i64 0, .int .i64 0, .string ⟨#[]⟩] (heap_alloc_new w2 _) (by rw [HZ1.out]; exact Tryd.info26) (by rw [HZ1.out]; rfl) HZ2.out ?_; obtain ⟨hb9, hl9⟩ := box_new w2 #[.int .i64 0, .int .i64 0, .string ⟨#[]⟩, .int .i64 0, .int .i64 0, .int .i64 0, .int .i64 0, .int .i64 0, .bool false, .int .i64 0, .int .i64 0, .int .i64 0, .slice none 0 0, .int .i64 0, .int .i64 0, .int .i64 0, .string ⟨#[]⟩] CZ 26; generalize World.setRow _ w2.heap.size CZ = w4 at *; have HR4 : Hid (Row w4 a1 [2, 0, 0, 0, 7, 0, 1, 97]) := HR2.out.below hl9; have HB4 : Hid (Below w.heap.size w w4) := HB2.out.trans (hl9.mono HB2.out.size); clear hb9 hl9 _h tok2)
    | (go_at_call 13; refine (HB.out _ _ _ HR4.out).mono ?_; rintro e w3 ⟨rfl, hb3⟩; have HB3 : Hid (Below w.heap.size w w3) := HB4.out.trans (hb3.mono HB4.out.size); clear hb3))
  go_ret
  exact ⟨rfl, HB3.out⟩
end Go.Proofs.YtaooidckmepdeaaDoor
namespace Go.Proofs.YtaooidckmepdeaaDoor
set_option linter.unusedSimpArgs false
set_option linter.unusedVariables false
open Go.RowKit Go.ChangeShapes Go.WideShapes Go.ChangeAt
/-- A record that came in. -/
def RcIn (r : Rc) : Prop := In64 r.t ∧ In64 r.o ∧ r.k.size ≤ reachBytes ∧ r.v.size ≤ reachBytes
theorem weights_at {H : Type} {ts : List TypeId} {ds : List (DataW H)} {j : Nat} {t : TypeId} {d : DataW H} (ht : ts[j]? = some t) (hd : ds[j]? = some d) (h : (DataW.weightsEach Tryd.prog ts ds).all (· ≤ reachBytes) = true) : ∀ n ∈ d.weights Tryd.prog t, n ≤ reachBytes := by
  intro n hn
  have := List.all_eq_true.1 h n (DataW.weights_mem_each ht hd n hn)
  simpa using this
theorem mem_all {H : Type} {P : Program} {e : TypeId} : ∀ {ds : List (DataW H)} {d : DataW H}, d ∈ ds → ∀ n ∈ d.weights P e, n ∈ DataW.weightsAll P e ds
  | d0 :: r, d, hd, n, hn => by
    simp only [DataW.weightsAll, List.mem_append]
    rcases List.mem_cons.1 hd with rfl | h
    · exact .inl hn
    · exact .inr (mem_all h n hn)
theorem str_weight {H : Type} {t : TypeId} {s : ByteArray} {y : DataW H} (h : y = .lit (.string s.data.toList)) : s.size ∈ y.weights Tryd.prog t := by
  rw [h]
  exact List.mem_singleton.2 rfl
set_option maxRecDepth 100000 in
theorem recs_in {H : Type} {enc : TypeId × Value → H} {W : World} {base fuel : Nat} {sp : Nat → Bool} {held : Bool} {a0 : Option Addr} {L cap0 : Nat} {x : DataW H × List MemPlace}
    (h : DataW.trod enc Tryd.prog W base sp held fuel 24 [.slice a0 L cap0] = some x) (hw : ∀ n ∈ x.1.weights Tryd.prog 24, n ≤ reachBytes) : ∃ rs : List Rc, L = rs.length ∧ RRow W a0 rs ∧ rs.length ≤ maxLen ∧ (a0 = none → cap0 = 0) ∧ L ≤ cap0 ∧ cap0 ≤ maxLen ∧ ∀ i, i < rs.length → RcIn (rs.getD i rz) := by
  rcases Go.Deep.open_slice Tryd.underlying24 h with ⟨hcs, _⟩ | ⟨ad, len, cap, m, n, D, Pl, hcs, _, hl, hm, hmm, hd, hx⟩
  · simp at hcs
    obtain ⟨rfl, rfl, rfl⟩ := hcs
    exact ⟨[], rfl, RRow.nil _ _, by simp, fun _ => rfl, Nat.le_refl _, by unfold maxLen; omega, fun i hi => by simp at hi⟩
  · simp at hcs
    obtain ⟨rfl, rfl, rfl⟩ := hcs
    have hlm : L ≤ m := by rw [hmm]; split <;> omega
    have each : ∀ i, i < L → ∃ r : Rc, (∃ b off, some ad = some ⟨b, off, none⟩ ∧ W.cell? ⟨b, off + i * 6, none⟩ = some (.bool r.hk) ∧ W.cell? ⟨b, off + i * 6 + 1, none⟩ = some (.string r.k) ∧ W.cell? ⟨b, off + i * 6 + 2, none⟩ = some (.bool r.hv) ∧ W.cell? ⟨b, off + i * 6 + 3, none⟩ = some (.string r.v) ∧ W.cell? ⟨b, off + i * 6 + 4, none⟩ = some (.int .i64 r.t) ∧ W.cell? ⟨b, off + i * 6 + 5, none⟩ = some (.int .i64 r.o)) ∧ RcIn r := by
      intro i hi
      have hsp : ad.spot = none := by
        obtain ⟨cs0, h10, _⟩ := hx 0 (by omega)
        rw [cells87] at h10
        obtain ⟨_, hlen0, hcell0⟩ := World.cells?_some h10
        have e := hcell0 0 (by omega)
        rw [List.getElem?_eq_getElem (by omega)] at e
        simpa [Addr.add] using World.cell?_spot e
      obtain ⟨b, off, spot⟩ := ad
      simp only at hsp
      subst hsp
      obtain ⟨cs', h1, h2⟩ := hx i (by omega)
      rw [cells87] at h1
      obtain ⟨_, hlen, hcell⟩ := World.cells?_some h1
      obtain ⟨xs, k, hk, hxy, _, hxl, hf⟩ := DataW.trod_struct Tryd.underlying87 h2
      match xs, hxl, cs', hlen with
      | [y0, y1, y2, y3, y4, y5], _, [v0, v1, v2, v3, v4, v5], _ =>
        have g0 := hf 0 _ rfl
        have g1 := hf 1 _ rfl
        have g2 := hf 2 _ rfl
        have g3 := hf 3 _ rfl
        have g4 := hf 4 _ rfl
        have g5 := hf 5 _ rfl
        simp [cells3, cells4, cells9] at g0 g1 g2 g3 g4 g5
        have e0 := hcell 0 (by omega)
        have e1 := hcell 1 (by omega)
        have e2 := hcell 2 (by omega)
        have e3 := hcell 3 (by omega)
        have e4 := hcell 4 (by omega)
        have e5 := hcell 5 (by omega)
        obtain ⟨n0, q0, _⟩ := DataW.trod_bool Tryd.underlying4 g0
        obtain ⟨n1, q1, u1, w1⟩ := DataW.trod_string Tryd.underlying9 g1
        obtain ⟨n2, q2, _⟩ := DataW.trod_bool Tryd.underlying4 g2
        obtain ⟨n3, q3, u3, w3⟩ := DataW.trod_string Tryd.underlying9 g3
        have hDi : D i = .agg [y0.1, y1.1, y2.1, y3.1, y4.1, y5.1] := by have := congrArg Prod.fst hxy; simpa using this
        have hin : ∀ m ∈ (D i).weights Tryd.prog 87, m ≤ reachBytes := fun m hm' => hw m (by
          rw [hd]
          simp only [DataW.weights, Tryd.underlying24, List.mem_cons, List.mem_append]
          exact .inr (.inl (mem_all (List.mem_map.2 ⟨i, by simpa using hi, rfl⟩) m hm')))
        have b1 : n1.size ≤ reachBytes := hin _ (by
          rw [hDi]
          simp only [DataW.weights, Tryd.underlying87]
          exact DataW.weights_mem_each (j := 1) rfl rfl _ (str_weight (congrArg Prod.fst u1)))
        have b3 : n3.size ≤ reachBytes := hin _ (by
          rw [hDi]
          simp only [DataW.weights, Tryd.underlying87]
          exact DataW.weights_mem_each (j := 3) rfl rfl _ (str_weight (congrArg Prod.fst u3)))
        obtain ⟨n4, q4, _, w4⟩ := DataW.trod_int Tryd.underlying3 g4
        obtain ⟨n5, q5, _, w5⟩ := DataW.trod_int Tryd.underlying3 g5
        simp at q0 q1 q2 q3 q4 q5
        subst q0; subst q1; subst q2; subst q3; subst q4; subst q5
        rw [Addr.add_lit, Addr.add_lit] at e0 e1 e2 e3 e4 e5
        simp at e0 e1 e2 e3 e4 e5
        exact ⟨⟨n0, n1, n2, n3, n4, n5⟩, ⟨b, off, rfl, e0, e1, e2, e3, e4, e5⟩, bd64 w4, bd64 w5, b1, b3⟩
    obtain ⟨l, hll, hr⟩ := list_of rz _ L each
    exact ⟨l, hll.symm, fun i hi => by rw [hll] at hi; exact (hr i hi).1, by omega, (fun c => by cases c), hl, hm, fun i hi => (hr i (by omega)).2⟩
theorem cells26 : Tryd.prog.cellsOf 26 = 17 := by kernel_rfl
theorem cells23 : Tryd.prog.cellsOf 23 = 5 := by kernel_rfl
theorem array17 {α : Type} {cs : Array α} (h : cs.size = 17) : ∃ c0 c1 c2 c3 c4 c5 c6 c7 c8 c9 c10 c11 c12 c13 c14 c15 c16, cs = #[c0, c1, c2, c3, c4, c5, c6, c7, c8, c9, c10, c11, c12, c13, c14, c15, c16] := by
  obtain ⟨l⟩ := cs
  match l, h with
  | [c0, c1, c2, c3, c4, c5, c6, c7, c8, c9, c10, c11, c12, c13, c14, c15, c16], _ => exact ⟨c0, c1, c2, c3, c4, c5, c6, c7, c8, c9, c10, c11, c12, c13, c14, c15, c16, rfl⟩
/-- A request's fields, by their numbers. -/
def bdq (t0 t1 : ByteArray) (n2 n3 n4 n5 n6 : Int) (c : Bool) (n8 n9 n10 : Int) (rs : List Rc) (n12 n13 n14 : Int) : Bd := fun f =>
  if f = 0 then vt t0 else if f = 1 then vt t1 else if f = 2 then vn n2 else if f = 3 then vn n3 else if f = 4 then vn n4 else if f = 5 then vn n5 else if f = 6 then vn n6 else if f = 7 then vn (bit c) else if f = 8 then vn n8 else if f = 9 then vn n9 else if f = 10 then vn n10 else if f = 11 then vr' rs else if f = 12 then vn n12 else if f = 13 then vn n13 else if f = 14 then vn n14 else fz
theorem bit_in (c : Bool) : In64 (bit c) ∧ (bit c = 0 ∨ bit c = 1) := by cases c <;> simp [bit, In64]
theorem bdq_b (t0 t1 : ByteArray) (n2 n3 n4 n5 n6 : Int) (c : Bool) (n8 n9 n10 : Int) (rs : List Rc) (n12 n13 n14 : Int) (h2 : In64 n2) (h3 : In64 n3) (h4 : In64 n4) (h5 : In64 n5) (h6 : In64 n6) (h8 : In64 n8) (h9 : In64 n9) (h10 : In64 n10) (h12 : In64 n12) (h13 : In64 n13) (h14 : In64 n14) (hr : ∀ r, r ∈ rs → In64 r.t) : RqB (bdq t0 t1 n2 n3 n4 n5 n6 c n8 n9 n10 rs n12 n13 n14) c := by
  refine ⟨⟨fun f hf => ?_, fun f hf => ?_⟩, rfl, rfl, rfl, rfl, rfl, rfl⟩
  · match f, hf with
    | 0, _ => exact (rfl : vt t0 = _)
    | 1, _ => exact (rfl : vt t1 = _)
    | 2, _ => exact ⟨rfl, h2⟩
    | 3, _ => exact ⟨rfl, h3⟩
    | 4, _ => exact ⟨rfl, h4⟩
    | 5, _ => exact ⟨rfl, h5⟩
    | 6, _ => exact ⟨rfl, h6⟩
    | 7, _ => exact ⟨rfl, (bit_in c).2⟩
    | 8, _ => exact ⟨rfl, h8⟩
    | 9, _ => exact ⟨rfl, h9⟩
    | 10, _ => exact ⟨rfl, h10⟩
    | 11, _ => exact ⟨rfl, hr⟩
    | 12, _ => exact ⟨rfl, h12⟩
    | 13, _ => exact ⟨rfl, h13⟩
    | 14, _ => exact ⟨rfl, h14⟩
    | 15, _ => exact VK_fz 15
    | 16, _ => exact VK_fz 16
    | 17, _ => exact VK_fz 17
    | 18, _ => exact VK_fz 18
    | 19, _ => exact VK_fz 19
    | n + 20, h => exact absurd h (by omega)
  · unfold bdq
    rw [if_neg (by omega), if_neg (by omega), if_neg (by omega), if_neg (by omega), if_neg (by omega), if_neg (by omega), if_neg (by omega), if_neg (by omega), if_neg (by omega), if_neg (by omega), if_neg (by omega), if_neg (by omega), if_neg (by omega), if_neg (by omega), if_neg (by omega)]
/-- A request that came in. -/
structure ReqIn (w : World) (k i : Int) (b : Bd) (c : Bool) (ra : Option Addr) (rc : Nat) : Prop where
  hk : In64 k
  hi : In64 i
  hb : RqB b c
  r : RRow w ra (b 11).rs
  l : (b 11).rs.length ≤ maxLen
  n : ra = none → rc = 0
  lc : (b 11).rs.length ≤ rc
  cm : rc ≤ maxLen
  each : ∀ j, j < (b 11).rs.length → RcIn ((b 11).rs.getD j rz)
  t : ∀ f, (b f).t.size ≤ reachBytes
theorem ite_t {p : Prop} [Decidable p] {R : Nat} (a b : Fv) (ha : a.t.size ≤ R) (hb : b.t.size ≤ R) : (if p then a else b).t.size ≤ R := by split <;> assumption
theorem bdq_t (t0 t1 : ByteArray) (n2 n3 n4 n5 n6 : Int) (c : Bool) (n8 n9 n10 : Int) (rs : List Rc) (n12 n13 n14 : Int) (h0 : t0.size ≤ reachBytes) (h1 : t1.size ≤ reachBytes) (f : Nat) : (bdq t0 t1 n2 n3 n4 n5 n6 c n8 n9 n10 rs n12 n13 n14 f).t.size ≤ reachBytes := by
  have z : (⟨#[]⟩ : ByteArray).size ≤ reachBytes := Nat.zero_le _
  unfold bdq
  repeat (first | exact h0 | exact h1 | exact z | refine ite_t _ _ ?_ ?_)
set_option maxRecDepth 100000 in
theorem req_of {H : Type} {enc : TypeId × Value → H} {W : World} {r : Reach} {base b0 : Nat} {sp : Nat → Bool} {held : Bool} {v : Value} {d : DataW H} {p : List MemPlace}
    (hv : Value.okWide Tryd.prog W r b0 26 v) (h : DataW.Trod enc Tryd.prog W base sp held 26 v d p) (hw : ∀ n ∈ d.weights Tryd.prog 26, n ≤ reachBytes) : ∃ (k i : Int) (b : Bd) (c : Bool) (ra : Option Addr) (rc : Nat), v = .agg (rqc k i b c ra rc) ∧ ReqIn W k i b c ra rc := by
  obtain ⟨cs, rfl, hsz⟩ := okWide_struct Tryd.underlying26 hv
  obtain ⟨c0, c1, c2, c3, c4, c5, c6, c7, c8, c9, c10, c11, c12, c13, c14, c15, c16, rfl⟩ := array17 (hsz.trans cells26)
  obtain ⟨fuel, hf⟩ := h
  obtain ⟨xs, k, hk, hxy, _, hxl, hg⟩ := DataW.trod_struct Tryd.underlying26 hf
  match xs, hxl with
  | [y0, y1, y2, y3, y4, y5, y6, y7, y8, y9, y10, y11, y12], _ =>
    have g0 := hg 0 _ rfl
    have g1 := hg 1 _ rfl
    have g2 := hg 2 _ rfl
    have g3 := hg 3 _ rfl
    have g4 := hg 4 _ rfl
    have g5 := hg 5 _ rfl
    have g6 := hg 6 _ rfl
    have g7 := hg 7 _ rfl
    have g8 := hg 8 _ rfl
    have g9 := hg 9 _ rfl
    have g10 := hg 10 _ rfl
    have g11 := hg 11 _ rfl
    have g12 := hg 12 _ rfl
    simp [cells3, cells4, cells9, cells24, cells23, Value.cells] at g0 g1 g2 g3 g4 g5 g6 g7 g8 g9 g10 g11 g12
    obtain ⟨n0, q0, _, w0⟩ := DataW.trod_int Tryd.underlying3 g0
    obtain ⟨n1, q1, _, w1⟩ := DataW.trod_int Tryd.underlying3 g1
    obtain ⟨n2, q2, u2, w2⟩ := DataW.trod_string Tryd.underlying9 g2
    obtain ⟨n3, q3, _, w3⟩ := DataW.trod_int Tryd.underlying3 g3
    obtain ⟨n4, q4, _, w4⟩ := DataW.trod_int Tryd.underlying3 g4
    obtain ⟨n6, q6, _, w6⟩ := DataW.trod_int Tryd.underlying3 g6
    obtain ⟨n7, q7, _, w7⟩ := DataW.trod_int Tryd.underlying3 g7
    obtain ⟨n9, q9, _, w9⟩ := DataW.trod_int Tryd.underlying3 g9
    obtain ⟨n10, q10, _, w10⟩ := DataW.trod_int Tryd.underlying3 g10
    obtain ⟨n11, q11, _, w11⟩ := DataW.trod_int Tryd.underlying3 g11
    obtain ⟨n12, q12, u12, w12⟩ := DataW.trod_string Tryd.underlying9 g12
    have hDi : d = .agg [y0.1, y1.1, y2.1, y3.1, y4.1, y5.1, y6.1, y7.1, y8.1, y9.1, y10.1, y11.1, y12.1] := by have := congrArg Prod.fst hxy; simpa using this
    have b2 : n2.size ≤ reachBytes := hw _ (by
      rw [hDi]
      simp only [DataW.weights, Tryd.underlying26]
      exact DataW.weights_mem_each (j := 2) rfl rfl _ (str_weight (congrArg Prod.fst u2)))
    have b12 : n12.size ≤ reachBytes := hw _ (by
      rw [hDi]
      simp only [DataW.weights, Tryd.underlying26]
      exact DataW.weights_mem_each (j := 12) rfl rfl _ (str_weight (congrArg Prod.fst u12)))
    have b8 : ∀ m ∈ y8.1.weights Tryd.prog 24, m ≤ reachBytes := fun m hm' => hw m (by
      rw [hDi]
      simp only [DataW.weights, Tryd.underlying26]
      exact DataW.weights_mem_each (j := 8) rfl rfl _ hm')
    simp at q0 q1 q2 q3 q4 q6 q7 q9 q10 q11 q12
    subst q0; subst q1; subst q2; subst q3; subst q4; subst q6; subst q7; subst q9; subst q10; subst q11; subst q12
    obtain ⟨a1, l1, k1, rfl⟩ : ∃ a1 l1 c1, c12 = .slice a1 l1 c1 := by
      rcases Go.Deep.open_slice Tryd.underlying24 g8 with ⟨hcs, _⟩ | ⟨ad, len, cap, m, n, D, Pl, hcs, _⟩
      · simp at hcs; exact ⟨_, _, _, hcs⟩
      · simp at hcs; exact ⟨_, _, _, hcs⟩
    obtain ⟨rs, rfl, hr, hl, hn, hlc, hcm, he⟩ := recs_in g8 b8
    obtain ⟨xs, k5, _, _, _, hxl, hg⟩ := DataW.trod_struct Tryd.underlying23 g5
    match xs, hxl with
    | [y0, y1, y2, y3, y4], _ =>
      have s0 := hg 0 _ rfl
      have s1 := hg 1 _ rfl
      have s2 := hg 2 _ rfl
      have s3 := hg 3 _ rfl
      have s4 := hg 4 _ rfl
      simp [cells3, cells4] at s0 s1 s2 s3 s4
      obtain ⟨m0, e0, _, v0⟩ := DataW.trod_int Tryd.underlying3 s0
      obtain ⟨m1, e1, _, v1⟩ := DataW.trod_int Tryd.underlying3 s1
      obtain ⟨m2, e2, _, v2⟩ := DataW.trod_int Tryd.underlying3 s2
      obtain ⟨m3, e3, _⟩ := DataW.trod_bool Tryd.underlying4 s3
      obtain ⟨m4, e4, _, v4⟩ := DataW.trod_int Tryd.underlying3 s4
      simp at e0 e1 e2 e3 e4
      subst e0; subst e1; subst e2; subst e3; subst e4
      refine ⟨n0, n1, bdq n2 n12 n3 n4 m0 m1 m2 m3 m4 n6 n7 rs n9 n10 n11, m3, a1, k1, rfl, bd64 w0, bd64 w1, bdq_b _ _ _ _ _ _ _ _ _ _ _ _ _ _ _ (bd64 w3) (bd64 w4) (bd64 v0) (bd64 v1) (bd64 v2) (bd64 v4) (bd64 w6) (bd64 w7) (bd64 w9) (bd64 w10) (bd64 w11) (fun r hr => ?_), hr, hl, hn, hlc, hcm, he, bdq_t _ _ _ _ _ _ _ _ _ _ _ _ _ _ _ b2 b12⟩
      obtain ⟨j, hj, rfl⟩ := List.getElem_of_mem hr
      have := he j hj
      rw [List.getD_eq_getElem?_getD, List.getElem?_eq_getElem hj] at this
      exact this.1
theorem ReqIn.below {w w' : World} {k i : Int} {b : Bd} {c : Bool} {ra : Option Addr} {rc : Nat} (h : ReqIn w k i b c ra rc) (hb : Below w.heap.size w w') : ReqIn w' k i b c ra rc :=
  ⟨h.hk, h.hi, h.hb, h.r.below hb, h.l, h.n, h.lc, h.cm, h.each, h.t⟩
/-- A request of few records may be written. -/
theorem ReqIn.ok {w : World} {k i : Int} {b : Bd} {c : Bool} {ra : Option Addr} {rc : Nat} (h : ReqIn w k i b c ra rc) (ht : Tab w) (hl : (b 11).rs.length ≤ 100000) : BdOk w b (ptR ra rc) := by
  have z : ∀ f, 17 ≤ f → f ≤ 19 → b f = fz := fun f h1 h2 => by
    rcases (show f = 17 ∨ f = 18 ∨ f = 19 by omega) with rfl | rfl | rfl
    · exact h.hb.z17
    · exact h.hb.z18
    · exact h.hb.z19
  have z17 : (b 17).nm = [] := by rw [z 17 (by omega) (by omega)]; rfl
  have z18 : (b 18).ct = [] := by rw [z 18 (by omega) (by omega)]; rfl
  have z19 : (b 19).bs = [] := by rw [z 19 (by omega) (by omega)]; rfl
  refine ⟨ht, h.r, ?_, ?_, ⟨?_, ?_⟩, ?_, hl, ?_, ?_, ?_, fun j hj => ?_, ?_, fun f => by have := h.t f; unfold reachBytes at this; omega, ?_⟩
  · intro i hi; rw [z17] at hi; cases hi
  · intro i hi; rw [z18] at hi; cases hi
  · intro i hi; cases hi
  · intro i hi; cases hi
  · rw [z19]; rfl
  · rw [z17]; decide
  · rw [z18]; decide
  · exact Nat.zero_le _
  · obtain ⟨q1, _, q2, q3⟩ := h.each j hj
    exact ⟨q1, by unfold reachBytes at q2; omega, by unfold reachBytes at q3; omega⟩
  · intro i hi; rw [z17] at hi; cases hi
  · rw [h.hb.c7]; exact (bit_in c).1
end Go.Proofs.YtaooidckmepdeaaDoor
namespace Go.Proofs.YtaooidckmepdeaaDoor
set_option linter.unusedSimpArgs false
set_option linter.unusedVariables false
open Go.RowKit
theorem EncP.none {w w' : World} {e : Ending} (h : EncP none w e w') : e = .returned (.tuple #[.slice none 0 0, .int .i64 1]) ∧ Below w.heap.size w w' := by
  obtain ⟨⟨v, z, rfl, _, hv⟩, hb⟩ := h
  obtain ⟨rfl, rfl⟩ := hv rfl
  exact ⟨rfl, hb⟩
/-- A row of bytes that may be read. -/
structure BOk (w : World) (a : Option Addr) (c : Nat) (L : List Nat) : Prop where
  row : Row w a L
  len : L.length ≤ c
  cap : c ≤ maxLen
  nil : a = none → c = 0
  big : L.length ≤ 1000000000000
theorem EncP.some2 {L : List Nat} {w w' : World} {e : Ending} (h : EncP (Option.some L) w e w') : ∃ a c, e = .returned (.tuple #[.slice a L.length c, .int .i64 0]) ∧ BOk w' a c L ∧ Below w.heap.size w w' := by
  obtain ⟨⟨v, z, rfl, hv, _⟩, hb⟩ := h
  obtain ⟨rfl, ho, hy, hbig⟩ := hv L rfl
  obtain ⟨a, c, rfl, hr, hn⟩ := owns_sl ho (lt_mem hy)
  have hc : L.length ≤ c ∧ c ≤ maxLen := by
    rcases ho.2 with ⟨e, h0⟩ | ⟨g, cap, cur, e, hB, hg, hle, hm, _⟩
    · injection e with e1 e2 e3; subst e3; exact ⟨by omega, by unfold maxLen; omega⟩
    · injection e with e1 e2 e3; subst e3; exact ⟨by omega, hm⟩
  exact ⟨a, c, rfl, ⟨hr, hc.1, hc.2, hn, hbig⟩, hb⟩
theorem round_big (k : Int) (n : Nat) (w : World) (h1 : -9223372036854775808 ≤ k) (h2 : k ≤ 9223372036854775807) (hn : 1 ≤ n) (hn2 : n ≤ 1000000000000) :
    Calls Tryd.prog 20 #[.int .i64 k, .int .i64 (n : Int)] w fun e w' => e = .returned (.int .i64 (((k % (n : Int)).toNat : Nat) : Int)) ∧ w' = w := by
  have hnI : (1 : Int) ≤ (n : Int) := by omega
  have hnJ : (n : Int) ≤ 1000000000000 := by omega
  have hn0 : ((n : Int) == 0) = false := by simp; omega
  have hne : (n : Int) ≠ 0 := by omega
  have e1 := Int.emod_nonneg k hne
  have e2 := Int.emod_lt_of_pos k (show 0 < (n : Int) by omega)
  have HE : Hid ((((k % (n : Int)).toNat : Nat) : Int) = k % (n : Int)) := by show _ = _; omega
  have HT : Hid (Int.tmod k (n : Int) = if 0 ≤ k ∨ k % (n : Int) = 0 then k % (n : Int) else k % (n : Int) - (n : Int)) := by
    show _ = _
    rw [Int.tmod_eq_emod]
    by_cases h : 0 ≤ k
    · simp [h]
    · by_cases hd : (n : Int) ∣ k
      · simp [hd, Int.emod_eq_zero_of_dvd hd]
      · have : ¬ k % (n : Int) = 0 := fun q => hd (Int.dvd_of_emod_eq_zero q)
        simp [h, hd, this]
  go_enter Tryd.func20, Tryd.ntmps20
  go_wp2
  · have h : k.tmod (n : Int) < 0 := by assumption
    have ht := HT.out
    go_ret
    refine ⟨retI ?_, rfl⟩
    rw [HE.out]
    generalize k.tmod (n : Int) = z at *
    generalize k % (n : Int) = y at *
    unfold wrap64
    split at ht <;> omega
  · have h : 0 ≤ k.tmod (n : Int) := by assumption
    have ht := HT.out
    go_ret
    refine ⟨retI ?_, rfl⟩
    rw [HE.out]
    generalize k.tmod (n : Int) = z at *
    generalize k % (n : Int) = y at *
    split at ht <;> omega
/-- A box of what came in, the first that is new. -/
structure BxW (w : World) (t : TypeId) (cs : Array Value) (x : World) : Prop where
  box : x.heap[w.heap.size]? = some (.cells cs t (0, 0))
  bel : Below w.heap.size w x
theorem BxW.new (w : World) (t : TypeId) (cs : Array Value) : BxW w t cs (w.alloc (.cells cs t)) := ⟨heap_alloc_new w _, below_box _⟩
theorem BxW.below {w x y : World} {t : TypeId} {cs : Array Value} (h : BxW w t cs x) (hb : Below x.heap.size x y) : BxW w t cs y :=
  ⟨(hb.block _ (Array.getElem?_eq_some_iff.1 h.box).1).trans h.box, h.bel.trans (hb.mono h.bel.size)⟩
set_option maxHeartbeats 800000 in
set_option maxRecDepth 100000 in
theorem in_any (k i : Int) (b : Bd) (c : Bool) (ra : Option Addr) (rc : Nat) (w : World) (h : ReqIn w k i b c ra rc) :
    Calls Tryd.prog 9 #[.agg (rqc k i b c ra rc)] w fun e w' => IsB (b 11).rs.length e ∧ Below w.heap.size w w' := by
  have HB : Hid (BxW w 26 (rqc k i b c ra rc) (w.alloc (.cells (rqc k i b c ra rc) 26))) := BxW.new _ _ _
  have HC : Hid (∀ x, BxW w 26 (rqc k i b c ra rc) x → x.cell? ⟨w.heap.size, 2, none⟩ = some (.string (b 0).t) ∧ x.cell? ⟨w.heap.size, 16, none⟩ = some (.string (b 1).t) ∧ x.cell? ⟨w.heap.size, 12, none⟩ = some (.slice ra (b 11).rs.length rc)) := fun x hx => by
    obtain ⟨c0, c1, c2, c3, c4, c5, c6, c7, c8, c9, c10, c11, c12, c13, c14, c15, c16, c17⟩ := rq_box hx.box
    exact ⟨c2, c16, c12⟩
  have HS : Hid (∀ x, Below w.heap.size w x → Calls Tryd.prog 21 #[.slice ra (b 11).rs.length rc] x fun e w' => IsB (b 11).rs.length e ∧ Below x.heap.size x w') := fun x hx => small_any ra rc _ x (h.r.below hx) h.l
  obtain ⟨z2, z16, z12⟩ := HC.out _ HB.out
  clear h
  generalize rqc k i b c ra rc = cs at *
  generalize (b 0).t = t0 at *
  generalize (b 1).t = t1 at *
  generalize (b 11).rs.length = n at *
  go_enter Tryd.func9, Tryd.ntmps9
  go_wp2_with (first
    | (go_at_call 21; refine (HS.out _ HB.out.bel).mono ?_; rintro e w1 ⟨⟨sm, rfl, hsm⟩, hb1⟩; have HB1 : Hid (BxW w 26 cs w1) := BxW.below HB.out hb1; clear z2 z16 z12; obtain ⟨z2, z16, z12⟩ := HC.out _ HB1.out; have HSM : Hid (sm = true → n ≤ 300) := hsm; clear hsm hb1 HB; cases sm))
  · go_ret
    exact ⟨⟨false, rfl, fun q => by cases q⟩, HB1.out.bel⟩
  · go_ret
    exact ⟨⟨_, rfl, fun q => HSM.out (by trivial)⟩, HB1.out.bel⟩
end Go.Proofs.YtaooidckmepdeaaDoor
