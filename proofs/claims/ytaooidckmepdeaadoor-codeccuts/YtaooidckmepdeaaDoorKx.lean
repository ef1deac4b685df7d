/- A body made a request, or a response. -/
import Derived.Test.YtaooidckmepdeaaDoorKw
import Derived.Test.YtaooidckmepdeaaDoorKk
namespace Go.Proofs.YtaooidckmepdeaaDoor
set_option linter.unusedSimpArgs false
set_option linter.unusedVariables false
open Go.RowKit
theorem two_boxes (w : World) (c1 c2 : Array Value) (t1 t2 : TypeId) : ((w.alloc (.cells c1 t1)).alloc (.cells c2 t2)).heap[w.heap.size]? = some (.cells c1 t1 (0, 0)) ∧ ((w.alloc (.cells c1 t1)).alloc (.cells c2 t2)).heap[w.heap.size + 1]? = some (.cells c2 t2 (0, 0)) := by
  refine ⟨((below_box _).block _ (by simp)).trans (heap_alloc_new w _), ?_⟩
  have q := heap_alloc_new (w.alloc (.cells c1 t1)) (.cells c2 t2)
  rw [show (w.alloc (.cells c1 t1)).heap.size = w.heap.size + 1 by simp] at q
  exact q
set_option maxRecDepth 100000 in
set_option maxHeartbeats 400000 in
theorem request_of (b : Bd) (p : Pt) (w : World) : Calls Tryd.prog 35 #[.agg (bdc b p)] w fun e w' => e = .returned (.agg (rqc 0 0 b ((b 7).n == 1) p.ra p.rc)) ∧ Below w.heap.size w w' := by
  have hB := (two_boxes w (bdc b p) #[.int .i64 0, .int .i64 0, .string ⟨#[]⟩, .int .i64 0, .int .i64 0, .int .i64 0, .int .i64 0, .int .i64 0, .bool false, .int .i64 0, .int .i64 0, .int .i64 0, .slice none 0 0, .int .i64 0, .int .i64 0, .int .i64 0, .string ⟨#[]⟩] 66 26).1
  have HY : Hid (((w.alloc (.cells (bdc b p) 66)).alloc (.cells #[.int .i64 0, .int .i64 0, .string ⟨#[]⟩, .int .i64 0, .int .i64 0, .int .i64 0, .int .i64 0, .int .i64 0, .bool false, .int .i64 0, .int .i64 0, .int .i64 0, .slice none 0 0, .int .i64 0, .int .i64 0, .int .i64 0, .string ⟨#[]⟩] 26)).heap[w.heap.size + 1]? = some (.cells #[.int .i64 0, .int .i64 0, .string ⟨#[]⟩, .int .i64 0, .int .i64 0, .int .i64 0, .int .i64 0, .int .i64 0, .bool false, .int .i64 0, .int .i64 0, .int .i64 0, .slice none 0 0, .int .i64 0, .int .i64 0, .int .i64 0, .string ⟨#[]⟩] 26 (0, 0))) := (two_boxes w (bdc b p) #[.int .i64 0, .int .i64 0, .string ⟨#[]⟩, .int .i64 0, .int .i64 0, .int .i64 0, .int .i64 0, .int .i64 0, .bool false, .int .i64 0, .int .i64 0, .int .i64 0, .slice none 0 0, .int .i64 0, .int .i64 0, .int .i64 0, .string ⟨#[]⟩] 66 26).2
  have HW : Hid (Below w.heap.size w ((w.alloc (.cells (bdc b p) 66)).alloc (.cells #[.int .i64 0, .int .i64 0, .string ⟨#[]⟩, .int .i64 0, .int .i64 0, .int .i64 0, .int .i64 0, .int .i64 0, .bool false, .int .i64 0, .int .i64 0, .int .i64 0, .slice none 0 0, .int .i64 0, .int .i64 0, .int .i64 0, .string ⟨#[]⟩] 26))) := (below_box _).trans ((below_box _).mono (by simp))
  obtain ⟨cn, ct, c40, c41, c42, c43, hlt⟩ := bdc_box hB
  have n2 := cn 2 (by decide)
  have n3 := cn 3 (by decide)
  have n4 := cn 4 (by decide)
  have n5 := cn 5 (by decide)
  have n6 := cn 6 (by decide)
  have n7 := cn 7 (by decide)
  have n8 := cn 8 (by decide)
  have n9 := cn 9 (by decide)
  have n10 := cn 10 (by decide)
  have n12 := cn 12 (by decide)
  have n13 := cn 13 (by decide)
  have n14 := cn 14 (by decide)
  have t0 := ct 0 (by decide)
  have t1 := ct 1 (by decide)
  clear cn ct hB
  unfold rqc
  generalize (b 2).n = v2 at *
  generalize (b 3).n = v3 at *
  generalize (b 4).n = v4 at *
  generalize (b 5).n = v5 at *
  generalize (b 6).n = v6 at *
  generalize (b 7).n = v7 at *
  generalize (b 8).n = v8 at *
  generalize (b 9).n = v9 at *
  generalize (b 10).n = v10 at *
  generalize (b 12).n = v12 at *
  generalize (b 13).n = v13 at *
  generalize (b 14).n = v14 at *
  generalize (b 0).t = x0 at *
  generalize (b 1).t = x1 at *
  generalize (b 11).rs.length = nr at *
  generalize bdc b p = cs at *
  go_enter Tryd.func35, Tryd.ntmps35
  go_wp2_with fail
  refine bodyPost_ret (results_cell_row rfl _ _ (w.heap.size + 1) 26 #[.int .i64 0, .int .i64 0, .string x0, .int .i64 v2, .int .i64 v3, .int .i64 v4, .int .i64 v5, .int .i64 v6, .bool (v7 == 1), .int .i64 v8, .int .i64 v9, .int .i64 v10, .slice p.ra nr p.rc, .int .i64 v12, .int .i64 v13, .int .i64 v14, .string x1] (0, 0) _ rfl (two_boxes w cs _ 66 26).2 Tryd.underlying26 rfl Tryd.info26) rfl ?_
  exact ⟨rfl, (below_box _).trans ((below_box _).mono (by simp))⟩
set_option maxRecDepth 100000 in
set_option maxHeartbeats 400000 in
theorem response_of (b : Bd) (p : Pt) (w : World) : Calls Tryd.prog 38 #[.agg (bdc b p)] w fun e w' => e = .returned (.agg (rsc 0 0 0 b p)) ∧ Below w.heap.size w w' := by
  have hB := (two_boxes w (bdc b p) #[.int .i64 0, .int .i64 0, .int .i64 0, .int .i64 0, .int .i64 0, .int .i64 0, .slice none 0 0, .slice none 0 0, .slice none 0 0] 66 40).1
  have HY : Hid (((w.alloc (.cells (bdc b p) 66)).alloc (.cells #[.int .i64 0, .int .i64 0, .int .i64 0, .int .i64 0, .int .i64 0, .int .i64 0, .slice none 0 0, .slice none 0 0, .slice none 0 0] 40)).heap[w.heap.size + 1]? = some (.cells #[.int .i64 0, .int .i64 0, .int .i64 0, .int .i64 0, .int .i64 0, .int .i64 0, .slice none 0 0, .slice none 0 0, .slice none 0 0] 40 (0, 0))) := (two_boxes w (bdc b p) #[.int .i64 0, .int .i64 0, .int .i64 0, .int .i64 0, .int .i64 0, .int .i64 0, .slice none 0 0, .slice none 0 0, .slice none 0 0] 66 40).2
  have HW : Hid (Below w.heap.size w ((w.alloc (.cells (bdc b p) 66)).alloc (.cells #[.int .i64 0, .int .i64 0, .int .i64 0, .int .i64 0, .int .i64 0, .int .i64 0, .slice none 0 0, .slice none 0 0, .slice none 0 0] 40))) := (below_box _).trans ((below_box _).mono (by simp))
  obtain ⟨cn, ct, c40, c41, c42, c43, hlt⟩ := bdc_box hB
  have n12 := cn 12 (by decide)
  have n15 := cn 15 (by decide)
  have n16 := cn 16 (by decide)
  clear cn ct hB
  unfold rsc
  generalize (b 12).n = v12 at *
  generalize (b 15).n = v15 at *
  generalize (b 16).n = v16 at *
  generalize (b 17).nm.length = n17 at *
  generalize (b 18).ct.length = n18 at *
  generalize bdc b p = cs at *
  go_enter Tryd.func38, Tryd.ntmps38
  go_wp2_with fail
  refine bodyPost_ret (results_cell_row rfl _ _ (w.heap.size + 1) 40 #[.int .i64 0, .int .i64 0, .int .i64 0, .int .i64 v12, .int .i64 v15, .int .i64 v16, .slice p.na n17 p.nc, .slice p.ca n18 p.cc, .slice p.ba p.bs.length p.bc] (0, 0) _ rfl (two_boxes w cs _ 66 40).2 Tryd.underlying40 rfl Tryd.info40) rfl ?_
  exact ⟨rfl, (below_box _).trans ((below_box _).mono (by simp))⟩
end Go.Proofs.YtaooidckmepdeaaDoor
