/- Two rows of the same records, two batches that are the same. -/
import Derived.Test.YtgpeldmplkijlaaDoorBx
import Derived.Test.YtgpeldmplkijlaaDoorLw
import Derived.Laws.StructEq
namespace Go.Proofs.YtgpeldmplkijlaaDoor
set_option linter.unusedSimpArgs false
set_option linter.unusedVariables false
open Go.RowKit
set_option maxHeartbeats 800000 in
set_option maxRecDepth 100000 in
theorem records_same (a : Option Addr) (ca : Nat) (b : Option Addr) (cb : Nat) (rs : List Rc) (w : World) (ha : RRow w a rs) (hb : RRow w b rs) (hl : rs.length ≤ maxLen) :
    Calls Tryd.prog 25 #[.slice a rs.length ca, .slice b rs.length cb] w fun e w' => e = .returned (.bool true) ∧ ∃ n, w' = w.drewN n := by
  unfold maxLen at hl
  go_enter Tryd.func25, Tryd.ntmps25
  go_wp2
  go_loopw [5] (fun i wr => ∃ k n : Nat, k ≤ rs.length ∧ i = .int .i64 k ∧ wr = w.drewN n) (fun i _ => rs.length - (iof i).toNat)
  case atStart => exact ⟨0, 0, by omega, rfl, rfl⟩
  case round =>
    obtain ⟨k, n, hk, rfl, rfl⟩ := hrel
    by_cases hlt : k < rs.length
    · have hltI : (k : Int) < (rs.length : Int) := by omega
      obtain ⟨b1, o1, rfl, y0, y1, y2, y3, y4, y5⟩ := ha k hlt
      obtain ⟨b2, o2, rfl, z0, z1, z2, z3, z4, z5⟩ := hb k hlt
      clear ha hb
      generalize rs.getD k rz = r at *
      obtain ⟨hk', kk, hv, v, t, o⟩ := r
      simp only at y0 y1 y2 y3 y4 y5 z0 z1 z2 z3 z4 z5
      go_wp2
      go_quiet (fail)
      go_wp2
      exact ⟨⟨k + 1, n + nq, by omega, by go_num, rfl⟩, by simp [iof]; omega⟩
    · go_wp2
      go_ret
      exact ⟨rfl, n, rfl⟩
set_option maxHeartbeats 1600000 in
set_option maxRecDepth 100000 in
theorem batches_one (A B : Nat) (base span prod seq : Int) (n ca cb : Nat) (a b : Option Addr) (w : World)
    (x0 : w.cell? ⟨A, 0, none⟩ = some (.int .i64 base)) (x1 : w.cell? ⟨A, 1, none⟩ = some (.int .i64 span)) (x2 : w.cell? ⟨A, 2, none⟩ = some (.int .i64 prod)) (x3 : w.cell? ⟨A, 3, none⟩ = some (.int .i64 seq)) (x4 : w.cell? ⟨A, 4, none⟩ = some (.slice a n ca))
    (y0 : w.cell? ⟨B, 0, none⟩ = some (.int .i64 base)) (y1 : w.cell? ⟨B, 1, none⟩ = some (.int .i64 span)) (y2 : w.cell? ⟨B, 2, none⟩ = some (.int .i64 prod)) (y3 : w.cell? ⟨B, 3, none⟩ = some (.int .i64 seq)) (y4 : w.cell? ⟨B, 4, none⟩ = some (.slice b n cb))
    (HR : Hid (∀ k m, Calls Tryd.prog 25 #[.slice a n ca, .slice b n cb] (w.drewN (k + m)) fun e w' => e = .returned (.bool true) ∧ ∃ j, w' = w.drewN (k + j))) :
    Calls Tryd.prog 42 #[.slice (some ⟨A, 0, none⟩) 1 1, .slice (some ⟨B, 0, none⟩) 1 1] w fun e w' => e = .returned (.bool true) ∧ ∃ n, w' = w.drewN n := by
  go_enter Tryd.func42, Tryd.ntmps42
  go_wp2
  go_loopw [5] (fun i wr => ∃ k n : Nat, k ≤ 1 ∧ i = .int .i64 k ∧ wr = w.drewN n) (fun i _ => 1 - (iof i).toNat)
  case atStart => exact ⟨0, 0, by omega, rfl, rfl⟩
  case round =>
    obtain ⟨k, n, hk, rfl, rfl⟩ := hrel
    by_cases hlt : k < 1
    · obtain rfl : k = 0 := by omega
      clear hk hlt
      rw [show ((0 : Nat) : Int) = 0 from rfl]
      go_wp2
      go_quiet (exact HR.out _ _)
      go_wp2
      exact ⟨⟨1, n + nq, by omega, by go_num, rfl⟩, by simp [iof]⟩
    · obtain rfl : k = 1 := by omega
      go_wp2
      go_ret
      exact ⟨rfl, n, rfl⟩
theorem four_new (w : World) (o1 o2 o3 o4 : Obj) : Below w.heap.size w ((((w.alloc o1).alloc o2).alloc o3).alloc o4) ∧ ((((w.alloc o1).alloc o2).alloc o3).alloc o4).heap[w.heap.size + 2]? = some o3 ∧ ((((w.alloc o1).alloc o2).alloc o3).alloc o4).heap[w.heap.size + 3]? = some o4 := by
  have b1 : Below w.heap.size w (w.alloc o1) := below_box _
  have b2 : Below w.heap.size w ((w.alloc o1).alloc o2) := b1.alloc (by simp) _
  have b3 : Below w.heap.size w (((w.alloc o1).alloc o2).alloc o3) := b2.alloc (by simp; omega) _
  have b4 : Below w.heap.size w ((((w.alloc o1).alloc o2).alloc o3).alloc o4) := b3.alloc (by simp; omega) _
  refine ⟨b4, ?_, ?_⟩
  · have h1 := heap_alloc_new ((w.alloc o1).alloc o2) o3
    have h2 := (below_box (w := ((w.alloc o1).alloc o2).alloc o3) o4).block (w.heap.size + 2) (by simp)
    rw [h2]
    simpa using h1
  · have h1 := heap_alloc_new (((w.alloc o1).alloc o2).alloc o3) o4
    simpa using h1
set_option maxRecDepth 100000 in
theorem same_any (b : Ba) (a : Option Addr) (ca : Nat) (a' : Option Addr) (cb : Nat) (w : World) (ha : RRow w a b.rs) (hb : RRow w a' b.rs) (hl : b.rs.length ≤ maxLen) :
    Calls Tryd.prog 20 #[bav b a ca, bav b a' cb] w fun e w' => e = .returned (.bool true) ∧ Below w.heap.size w w' := by
  obtain ⟨base, span, prod, seq, rs⟩ := b
  simp only [bav] at *
  have HBO : Hid (∀ A B x, Below w.heap.size w x → x.heap[A]? = some (.cells #[.int .i64 base, .int .i64 span, .int .i64 prod, .int .i64 seq, .slice a rs.length ca] 24 (0, 0)) → x.heap[B]? = some (.cells #[.int .i64 base, .int .i64 span, .int .i64 prod, .int .i64 seq, .slice a' rs.length cb] 24 (0, 0)) →
      Calls Tryd.prog 42 #[.slice (some ⟨A, 0, none⟩) 1 1, .slice (some ⟨B, 0, none⟩) 1 1] x fun e w' => e = .returned (.bool true) ∧ ∃ n, w' = x.drewN n) := by
    intro A B x hx hA hB
    have c1 := fun j => cell_of_row x A j _ 24 (0, 0) hA
    have c2 := fun j => cell_of_row x B j _ 24 (0, 0) hB
    refine batches_one A B base span prod seq rs.length ca cb a a' x (by rw [c1]; rfl) (by rw [c1]; rfl) (by rw [c1]; rfl) (by rw [c1]; rfl) (by rw [c1]; rfl) (by rw [c2]; rfl) (by rw [c2]; rfl) (by rw [c2]; rfl) (by rw [c2]; rfl) (by rw [c2]; rfl) ?_
    intro k m
    refine (records_same a ca a' cb rs (x.drewN (k + m)) (RRow.below (ha.below hx) (below_drewN (Below.refl _ _) _)) (RRow.below (hb.below hx) (below_drewN (Below.refl _ _) _)) hl).mono ?_
    rintro e w' ⟨rfl, j, rfl⟩
    exact ⟨rfl, m + j, by rw [World.drewN_drewN, Nat.add_assoc]⟩
  clear ha hb
  go_enter Tryd.func20, Tryd.ntmps20
  have HF : Hid (∀ o1 o2 o3 o4 : Obj, Below w.heap.size w ((((w.alloc o1).alloc o2).alloc o3).alloc o4) ∧ ((((w.alloc o1).alloc o2).alloc o3).alloc o4).heap[w.heap.size + 2]? = some o3 ∧ ((((w.alloc o1).alloc o2).alloc o3).alloc o4).heap[w.heap.size + 3]? = some o4) := fun o1 o2 o3 o4 => four_new w o1 o2 o3 o4
  go_wp2_with (go_at_call 42; refine (HBO.out _ _ _ (HF.out _ _ _ _).1 (HF.out _ _ _ _).2.1 (HF.out _ _ _ _).2.2).mono ?_; rintro e w2 ⟨rfl, n, rfl⟩)
  go_ret
  exact ⟨rfl, below_drewN (HF.out _ _ _ _).1 _⟩
end Go.Proofs.YtgpeldmplkijlaaDoor
