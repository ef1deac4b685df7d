/- The document's unbag, rows. -/
import Derived.Test.YtaooidckmepdeaaDoorPg
namespace Go.Proofs.YtaooidckmepdeaaDoor
set_option linter.unusedSimpArgs false
set_option linter.unusedVariables false
open Go.RowKit
/-- A bag as a request. -/
def rqx (k i : Int) (T : Nat → ByteArray) (M : Nat → Int) (c : Bool) (ra : Option Addr) (n rc : Nat) : Array Value := #[.int .i64 k, .int .i64 i, .string (T 0), .int .i64 (M 2), .int .i64 (M 3), .int .i64 (M 4), .int .i64 (M 5), .int .i64 (M 6), .bool c, .int .i64 (M 8), .int .i64 (M 9), .int .i64 (M 10), .slice ra n rc, .int .i64 (M 12), .int .i64 (M 13), .int .i64 (M 14), .string (T 1)]
theorem rqx_one (k i : Int) (T : Nat → ByteArray) (M : Nat → Int) (c : Bool) (ra : Option Addr) (n rc : Nat) : (rqx k i T M c ra n rc).all (·.oneCell') = true := by simp [rqx, Value.oneCell']
theorem run_alloc26 (x : World) : (Instr.alloc 26 true (.tuple #[])).run Tryd.prog x = .ok (.pointer (some ⟨x.heap.size, 0, none⟩)) (x.alloc (.cells z26 26)) := by
  go_simp
  rfl
theorem run_build26 (k i : Int) (T : Nat → ByteArray) (M : Nat → Int) (c : Bool) (ra : Option Addr) (n rc : Nat) (x : World) : (Instr.build 26 #[(0, .int .i64 k), (1, .int .i64 i), (2, .string (T 0)), (12, .string (T 1)), (3, .int .i64 (M 2)), (4, .int .i64 (M 3)), (5, .agg #[.int .i64 (M 4), .int .i64 (M 5), .int .i64 (M 6), .bool c, .int .i64 (M 8)]), (6, .int .i64 (M 9)), (7, .int .i64 (M 10)), (8, .slice ra n rc), (9, .int .i64 (M 12)), (10, .int .i64 (M 13)), (11, .int .i64 (M 14))]).run Tryd.prog x = .ok (.agg (rqx k i T M c ra n rc)) x := by
  refine run_build (P := Tryd.prog) x 26 _ _ ?_
  unfold rqx
  generalize T 0 = a0
  generalize T 1 = a1
  generalize M 2 = m2
  generalize M 3 = m3
  generalize M 4 = m4
  generalize M 5 = m5
  generalize M 6 = m6
  generalize M 8 = m8
  generalize M 9 = m9
  generalize M 10 = m10
  generalize M 12 = m12
  generalize M 13 = m13
  generalize M 14 = m14
  kernel_rfl
set_option maxHeartbeats 400000 in
set_option maxRecDepth 100000 in
theorem unbag_any (k i : Int) (T : Nat → ByteArray) (M : Nat → Int) (c : Bool) (ra : Option Addr) (n rc : Nat) (s1 s2 s3 : Value) (w : World) :
    Calls Tryd.prog 31 #[.agg (gbc k i T M c (.slice ra n rc) s1 s2 s3)] w fun e w' => e = .returned (.agg (rqx k i T M c ra n rc)) ∧ Below w.heap.size w w' := by
  have KA : Hid (∀ x : World, (Instr.alloc 26 true (.tuple #[])).run Tryd.prog x = .ok (.pointer (some ⟨x.heap.size, 0, none⟩)) (x.alloc (.cells z26 26))) := run_alloc26
  have KB : Hid (∀ x : World, (Instr.build 26 #[(0, .int .i64 k), (1, .int .i64 i), (2, .string (T 0)), (12, .string (T 1)), (3, .int .i64 (M 2)), (4, .int .i64 (M 3)), (5, .agg #[.int .i64 (M 4), .int .i64 (M 5), .int .i64 (M 6), .bool c, .int .i64 (M 8)]), (6, .int .i64 (M 9)), (7, .int .i64 (M 10)), (8, .slice ra n rc), (9, .int .i64 (M 12)), (10, .int .i64 (M 13)), (11, .int .i64 (M 14))]).run Tryd.prog x = .ok (.agg (rqx k i T M c ra n rc)) x) := run_build26 k i T M c ra n rc
  have HX0 : Hid (((w.alloc (.cells (gbc k i T M c (.slice ra n rc) s1 s2 s3) 71)).alloc (.cells z26 26)).heap[w.heap.size]? = some (.cells (gbc k i T M c (.slice ra n rc) s1 s2 s3) 71 (0, 0))) := (two_boxes w (gbc k i T M c (.slice ra n rc) s1 s2 s3) z26 71 26).1
  have HX1 : Hid (((w.alloc (.cells (gbc k i T M c (.slice ra n rc) s1 s2 s3) 71)).alloc (.cells z26 26)).heap[w.heap.size + 1]? = some (.cells z26 26 (0, 0))) := (two_boxes w (gbc k i T M c (.slice ra n rc) s1 s2 s3) z26 71 26).2
  have HBL : Hid (Below w.heap.size w ((w.alloc (.cells (gbc k i T M c (.slice ra n rc) s1 s2 s3) 71)).alloc (.cells z26 26))) := (below_box _).trans ((below_box _).mono (by simp))
  have HR1 : Hid ((rqx k i T M c ra n rc).size = 17) := rfl
  have HR2 : Hid ((rqx k i T M c ra n rc).all (·.oneCell') = true) := rqx_one _ _ _ _ _ _ _ _
  have HZ1 : Hid (z26.size = 17) := rfl
  have g0 : ((w.alloc (.cells (gbc k i T M c (.slice ra n rc) s1 s2 s3) 71)).alloc (.cells z26 26)).cell? ⟨w.heap.size, 0, none⟩ = some (.int .i64 k) := by rw [(box_at HX0.out 0).1]; exact (gbc_k ..).1
  have g1 : ((w.alloc (.cells (gbc k i T M c (.slice ra n rc) s1 s2 s3) 71)).alloc (.cells z26 26)).cell? ⟨w.heap.size, 1, none⟩ = some (.int .i64 i) := by rw [(box_at HX0.out 1).1]; exact (gbc_k ..).2
  have g2 : ((w.alloc (.cells (gbc k i T M c (.slice ra n rc) s1 s2 s3) 71)).alloc (.cells z26 26)).cell? ⟨w.heap.size, 2, none⟩ = some (.string (T 0)) := by rw [(box_at HX0.out 2).1]; exact gbc_t _ _ _ _ _ _ _ _ _ 0 (by decide)
  have g3 : ((w.alloc (.cells (gbc k i T M c (.slice ra n rc) s1 s2 s3) 71)).alloc (.cells z26 26)).cell? ⟨w.heap.size, 3, none⟩ = some (.string (T 1)) := by rw [(box_at HX0.out 3).1]; exact gbc_t _ _ _ _ _ _ _ _ _ 1 (by decide)
  have h2 : ((w.alloc (.cells (gbc k i T M c (.slice ra n rc) s1 s2 s3) 71)).alloc (.cells z26 26)).cell? ⟨w.heap.size, 6, none⟩ = some (.int .i64 (M 2)) := by rw [(box_at HX0.out 6).1]; exact gbc_n _ _ _ _ _ _ _ _ _ 2 (by decide)
  have h3 : ((w.alloc (.cells (gbc k i T M c (.slice ra n rc) s1 s2 s3) 71)).alloc (.cells z26 26)).cell? ⟨w.heap.size, 7, none⟩ = some (.int .i64 (M 3)) := by rw [(box_at HX0.out 7).1]; exact gbc_n _ _ _ _ _ _ _ _ _ 3 (by decide)
  have h4 : ((w.alloc (.cells (gbc k i T M c (.slice ra n rc) s1 s2 s3) 71)).alloc (.cells z26 26)).cell? ⟨w.heap.size, 8, none⟩ = some (.int .i64 (M 4)) := by rw [(box_at HX0.out 8).1]; exact gbc_n _ _ _ _ _ _ _ _ _ 4 (by decide)
  have h5 : ((w.alloc (.cells (gbc k i T M c (.slice ra n rc) s1 s2 s3) 71)).alloc (.cells z26 26)).cell? ⟨w.heap.size, 9, none⟩ = some (.int .i64 (M 5)) := by rw [(box_at HX0.out 9).1]; exact gbc_n _ _ _ _ _ _ _ _ _ 5 (by decide)
  have h6 : ((w.alloc (.cells (gbc k i T M c (.slice ra n rc) s1 s2 s3) 71)).alloc (.cells z26 26)).cell? ⟨w.heap.size, 10, none⟩ = some (.int .i64 (M 6)) := by rw [(box_at HX0.out 10).1]; exact gbc_n _ _ _ _ _ _ _ _ _ 6 (by decide)
  have h8 : ((w.alloc (.cells (gbc k i T M c (.slice ra n rc) s1 s2 s3) 71)).alloc (.cells z26 26)).cell? ⟨w.heap.size, 12, none⟩ = some (.int .i64 (M 8)) := by rw [(box_at HX0.out 12).1]; exact gbc_n _ _ _ _ _ _ _ _ _ 8 (by decide)
  have h9 : ((w.alloc (.cells (gbc k i T M c (.slice ra n rc) s1 s2 s3) 71)).alloc (.cells z26 26)).cell? ⟨w.heap.size, 13, none⟩ = some (.int .i64 (M 9)) := by rw [(box_at HX0.out 13).1]; exact gbc_n _ _ _ _ _ _ _ _ _ 9 (by decide)
  have h10 : ((w.alloc (.cells (gbc k i T M c (.slice ra n rc) s1 s2 s3) 71)).alloc (.cells z26 26)).cell? ⟨w.heap.size, 14, none⟩ = some (.int .i64 (M 10)) := by rw [(box_at HX0.out 14).1]; exact gbc_n _ _ _ _ _ _ _ _ _ 10 (by decide)
  have h12 : ((w.alloc (.cells (gbc k i T M c (.slice ra n rc) s1 s2 s3) 71)).alloc (.cells z26 26)).cell? ⟨w.heap.size, 16, none⟩ = some (.int .i64 (M 12)) := by rw [(box_at HX0.out 16).1]; exact gbc_n _ _ _ _ _ _ _ _ _ 12 (by decide)
  have h13 : ((w.alloc (.cells (gbc k i T M c (.slice ra n rc) s1 s2 s3) 71)).alloc (.cells z26 26)).cell? ⟨w.heap.size, 17, none⟩ = some (.int .i64 (M 13)) := by rw [(box_at HX0.out 17).1]; exact gbc_n _ _ _ _ _ _ _ _ _ 13 (by decide)
  have h14 : ((w.alloc (.cells (gbc k i T M c (.slice ra n rc) s1 s2 s3) 71)).alloc (.cells z26 26)).cell? ⟨w.heap.size, 18, none⟩ = some (.int .i64 (M 14)) := by rw [(box_at HX0.out 18).1]; exact gbc_n _ _ _ _ _ _ _ _ _ 14 (by decide)
  have g24 : ((w.alloc (.cells (gbc k i T M c (.slice ra n rc) s1 s2 s3) 71)).alloc (.cells z26 26)).cell? ⟨w.heap.size, 24, none⟩ = some (.bool c) := by rw [(box_at HX0.out 24).1]; exact (gbc_r ..).1
  have g25 : ((w.alloc (.cells (gbc k i T M c (.slice ra n rc) s1 s2 s3) 71)).alloc (.cells z26 26)).cell? ⟨w.heap.size, 25, none⟩ = some (.slice ra n rc) := by rw [(box_at HX0.out 25).1]; exact (gbc_r ..).2.1
  clear HX0
  generalize rqx k i T M c ra n rc = RQ at *
  generalize T 0 = a0 at *
  generalize T 1 = a1 at *
  generalize M 2 = m2 at *
  generalize M 3 = m3 at *
  generalize M 4 = m4 at *
  generalize M 5 = m5 at *
  generalize M 6 = m6 at *
  generalize M 8 = m8 at *
  generalize M 9 = m9 at *
  generalize M 10 = m10 at *
  generalize M 12 = m12 at *
  generalize M 13 = m13 at *
  generalize M 14 = m14 at *
  generalize (gbc k i T M c (.slice ra n rc) s1 s2 s3) = GS at *
  generalize z26 = ZB at *
  have tokA : True := trivial
  go_enter Tryd.func31, Tryd.ntmps31
  go_wp2_with (first
    | (have _h := tokA; refine wpList_allocZ KA.out rfl rfl (w.heap.size + 1) (by simp) ?_; clear _h tokA; simp only [Act.put, List.setIfInBounds_toArray, List.set_cons_zero, List.set_cons_succ])
    | (refine wpList_buildZ (parts := #[(0, .tmp 4), (1, .tmp 6), (2, .tmp 9), (12, .tmp 12), (3, .tmp 15), (4, .tmp 18), (5, .tmp 33), (6, .tmp 36), (7, .tmp 39), (8, .tmp 41), (9, .tmp 44), (10, .tmp 47), (11, .tmp 50)]) KB.out rfl rfl (by rfl) ?_; simp only [Act.put, List.setIfInBounds_toArray, List.set_cons_zero, List.set_cons_succ]; have tok1 : True := trivial)
    | (have _h := tok1; refine wpList_store_row rfl 26 _ _ rfl (w.heap.size + 1) RQ rfl rfl 26 ZB (by exact HX1.out) (by rw [HR1.out]; exact Tryd.info26) (by rw [HR1.out]; exact HZ1.out) HR2.out ?_; clear _h tok1))
  refine bodyPost_ret (results_cell_row rfl _ _ (w.heap.size + 1) 26 RQ (0, 0) _ rfl (setRow_heap _ _ _ _ _ _ HX1.out) Tryd.underlying26 rfl (by rw [HR1.out]; exact Tryd.info26)) rfl ?_
  exact ⟨rfl, below_setRow HBL.out (by omega) _⟩
/-- What the document calls a field's kind. -/
def wh (f : Nat) : Int := if kd f = 2 then 1 else if kd f = 0 then 2 else if kd f = 1 then 3 else if kd f = 3 then 4 else if kd f = 6 then 5 else if kd f = 4 then 6 else 7
def WBox (w : World) (a : Option Addr) (r : List Nat) : Prop := r = [] ∨ ∃ g cs, a = some ⟨g, 0, none⟩ ∧ w.heap[g]? = some (.cells cs 82 (0, 0)) ∧ ∀ j, j < r.length → cs[j * 2]? = some (.int .i64 (wh (r.getD j 0))) ∧ cs[j * 2 + 1]? = some (.int .i64 ((r.getD j 0 : Nat) : Int))
def RwP (r : List Nat) (w : World) (e : Ending) (w' : World) : Prop := (∃ a c, e = .returned (.slice a r.length c) ∧ WBox w' a r) ∧ Below w.heap.size w w'
set_option maxRecDepth 100000 in
theorem rows_1 (w : World) : Calls Tryd.prog 28 #[.int .i64 1, .bool false] w (RwP [0, 3, 4, 5, 6, 7, 8] w) := by
  go_enter Tryd.func28, Tryd.ntmps28
  go_wp2
  go_ret
  refine ⟨⟨some ⟨w.heap.size, 0, none⟩, 7, rfl, .inr ⟨w.heap.size, #[.int .i64 1, .int .i64 0, .int .i64 2, .int .i64 3, .int .i64 2, .int .i64 4, .int .i64 2, .int .i64 5, .int .i64 2, .int .i64 6, .int .i64 3, .int .i64 7, .int .i64 2, .int .i64 8], rfl, heap_alloc_new w _, fun j hj => ?_⟩⟩, below_box _⟩
  match j, hj with
  | 0, _ => exact ⟨rfl, rfl⟩
  | 1, _ => exact ⟨rfl, rfl⟩
  | 2, _ => exact ⟨rfl, rfl⟩
  | 3, _ => exact ⟨rfl, rfl⟩
  | 4, _ => exact ⟨rfl, rfl⟩
  | 5, _ => exact ⟨rfl, rfl⟩
  | 6, _ => exact ⟨rfl, rfl⟩
set_option maxRecDepth 100000 in
theorem rows_2 (w : World) : Calls Tryd.prog 28 #[.int .i64 2, .bool false] w (RwP [0] w) := by
  go_enter Tryd.func28, Tryd.ntmps28
  go_wp2
  go_ret
  refine ⟨⟨some ⟨w.heap.size, 0, none⟩, 1, rfl, .inr ⟨w.heap.size, #[.int .i64 1, .int .i64 0], rfl, heap_alloc_new w _, fun j hj => ?_⟩⟩, below_box _⟩
  match j, hj with
  | 0, _ => exact ⟨rfl, rfl⟩
set_option maxRecDepth 100000 in
theorem rows_3 (w : World) : Calls Tryd.prog 28 #[.int .i64 3, .bool false] w (RwP [] w) := by
  go_enter Tryd.func28, Tryd.ntmps28
  go_wp2
  go_ret
  exact ⟨⟨none, 0, rfl, .inl rfl⟩, Below.refl _ _⟩
set_option maxRecDepth 100000 in
theorem rows_4 (w : World) : Calls Tryd.prog 28 #[.int .i64 4, .bool false] w (RwP [0, 2, 9, 10, 11] w) := by
  go_enter Tryd.func28, Tryd.ntmps28
  go_wp2
  go_ret
  refine ⟨⟨some ⟨w.heap.size, 0, none⟩, 5, rfl, .inr ⟨w.heap.size, #[.int .i64 1, .int .i64 0, .int .i64 2, .int .i64 2, .int .i64 2, .int .i64 9, .int .i64 2, .int .i64 10, .int .i64 4, .int .i64 11], rfl, heap_alloc_new w _, fun j hj => ?_⟩⟩, below_box _⟩
  match j, hj with
  | 0, _ => exact ⟨rfl, rfl⟩
  | 1, _ => exact ⟨rfl, rfl⟩
  | 2, _ => exact ⟨rfl, rfl⟩
  | 3, _ => exact ⟨rfl, rfl⟩
  | 4, _ => exact ⟨rfl, rfl⟩
set_option maxRecDepth 100000 in
theorem rows_5 (w : World) : Calls Tryd.prog 28 #[.int .i64 5, .bool false] w (RwP [0, 2, 12, 13] w) := by
  go_enter Tryd.func28, Tryd.ntmps28
  go_wp2
  go_ret
  refine ⟨⟨some ⟨w.heap.size, 0, none⟩, 4, rfl, .inr ⟨w.heap.size, #[.int .i64 1, .int .i64 0, .int .i64 2, .int .i64 2, .int .i64 2, .int .i64 12, .int .i64 2, .int .i64 13], rfl, heap_alloc_new w _, fun j hj => ?_⟩⟩, below_box _⟩
  match j, hj with
  | 0, _ => exact ⟨rfl, rfl⟩
  | 1, _ => exact ⟨rfl, rfl⟩
  | 2, _ => exact ⟨rfl, rfl⟩
  | 3, _ => exact ⟨rfl, rfl⟩
set_option maxRecDepth 100000 in
theorem rows_6 (w : World) : Calls Tryd.prog 28 #[.int .i64 6, .bool false] w (RwP [0, 2, 14] w) := by
  go_enter Tryd.func28, Tryd.ntmps28
  go_wp2
  go_ret
  refine ⟨⟨some ⟨w.heap.size, 0, none⟩, 3, rfl, .inr ⟨w.heap.size, #[.int .i64 1, .int .i64 0, .int .i64 2, .int .i64 2, .int .i64 2, .int .i64 14], rfl, heap_alloc_new w _, fun j hj => ?_⟩⟩, below_box _⟩
  match j, hj with
  | 0, _ => exact ⟨rfl, rfl⟩
  | 1, _ => exact ⟨rfl, rfl⟩
  | 2, _ => exact ⟨rfl, rfl⟩
set_option maxRecDepth 100000 in
theorem rows_7 (w : World) : Calls Tryd.prog 28 #[.int .i64 7, .bool false] w (RwP [1, 0, 2, 12] w) := by
  go_enter Tryd.func28, Tryd.ntmps28
  go_wp2
  go_ret
  refine ⟨⟨some ⟨w.heap.size, 0, none⟩, 4, rfl, .inr ⟨w.heap.size, #[.int .i64 1, .int .i64 1, .int .i64 1, .int .i64 0, .int .i64 2, .int .i64 2, .int .i64 2, .int .i64 12], rfl, heap_alloc_new w _, fun j hj => ?_⟩⟩, below_box _⟩
  match j, hj with
  | 0, _ => exact ⟨rfl, rfl⟩
  | 1, _ => exact ⟨rfl, rfl⟩
  | 2, _ => exact ⟨rfl, rfl⟩
  | 3, _ => exact ⟨rfl, rfl⟩
set_option maxRecDepth 100000 in
theorem rows_8 (w : World) : Calls Tryd.prog 28 #[.int .i64 8, .bool false] w (RwP [1, 0, 2] w) := by
  go_enter Tryd.func28, Tryd.ntmps28
  go_wp2
  go_ret
  refine ⟨⟨some ⟨w.heap.size, 0, none⟩, 3, rfl, .inr ⟨w.heap.size, #[.int .i64 1, .int .i64 1, .int .i64 1, .int .i64 0, .int .i64 2, .int .i64 2], rfl, heap_alloc_new w _, fun j hj => ?_⟩⟩, below_box _⟩
  match j, hj with
  | 0, _ => exact ⟨rfl, rfl⟩
  | 1, _ => exact ⟨rfl, rfl⟩
  | 2, _ => exact ⟨rfl, rfl⟩
theorem rowsQ_any (k : Int) (h1 : 1 ≤ k) (h8 : k ≤ 8) (w : World) : Calls Tryd.prog 28 #[.int .i64 k, .bool false] w (RwP (rowOr (rowQ k)) w) := by
  rcases (show k = 1 ∨ k = 2 ∨ k = 3 ∨ k = 4 ∨ k = 5 ∨ k = 6 ∨ k = 7 ∨ k = 8 by omega) with rfl | rfl | rfl | rfl | rfl | rfl | rfl | rfl
  · exact rows_1 w
  · exact rows_2 w
  · exact rows_3 w
  · exact rows_4 w
  · exact rows_5 w
  · exact rows_6 w
  · exact rows_7 w
  · exact rows_8 w
end Go.Proofs.YtaooidckmepdeaaDoor
