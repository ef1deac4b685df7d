/- falls. -/
import Derived.Test.YtnnljdnaipjoiaaNb
namespace Go.Proofs.Ytnnljdnaipjoiaa
set_option linter.unusedSimpArgs false
set_option linter.unusedVariables false
open Go.RowKit Go.MapKept
/-- The world in which falls looks: boxes for the partition and the bounds. -/
def Fw0 (w : World) (q : PK) (st nx : Int) : World := (w.alloc (.cells #[.string q.1, .int .i64 q.2] 69)).alloc (.cells #[.int .i64 st, .int .i64 nx] 71)
theorem Fw0.below (w : World) (q : PK) (st nx : Int) : Below w.heap.size w (Fw0 w q st nx) := (below_box _).trans ((below_box _).mono (by simp))
theorem Fw0.cells (w : World) (q : PK) (st nx : Int) : (Fw0 w q st nx).cell? ⟨w.heap.size, 0, none⟩ = some (.string q.1) ∧ (Fw0 w q st nx).cell? ⟨w.heap.size, 1, none⟩ = some (.int .i64 q.2) ∧ (Fw0 w q st nx).cell? ⟨w.heap.size + 1, 0, none⟩ = some (.int .i64 st) ∧ (Fw0 w q st nx).cell? ⟨w.heap.size + 1, 1, none⟩ = some (.int .i64 nx) := by
  have h1 : (Fw0 w q st nx).heap[w.heap.size]? = some (.cells #[.string q.1, .int .i64 q.2] 69 (0, 0)) := (Below.heap_alloc _ _ _ (by simp)).trans (heap_alloc_new w _)
  have h2 := heap_alloc_new (w.alloc (.cells #[.string q.1, .int .i64 q.2] 69)) (.cells #[.int .i64 st, .int .i64 nx] 71)
  rw [show (w.alloc (.cells #[.string q.1, .int .i64 q.2] 69)).heap.size = w.heap.size + 1 by simp] at h2
  exact ⟨(two_cells h1).1, (two_cells h1).2, (two_cells h2).1, (two_cells h2).2⟩
set_option maxRecDepth 100000 in
theorem falls_any (p : Nat) (v1 v2 v3 : Option Nat) (S : LS) (q : PK) (st nx : Int) (w : World) (hl : LogIs w p v1 v2 v3 S) :
    Calls Try.prog 26 #[.pointer (some ⟨p, 0, none⟩), mkP q, vB (st, nx)] w fun e w' => e = .returned (.bool (fallsB S q st nx)) ∧ Below w.heap.size w w' := by
  have HB : Hid (∀ y, Below (Fw0 w q st nx).heap.size (Fw0 w q st nx) y → Below w.heap.size w y) := fun y hb => (Fw0.below w q st nx).trans (hb.mono (Fw0.below w q st nx).size)
  obtain ⟨a, b, kn, HR, HLK⟩ : ∃ (a b : Int) (kn : Bool), Hid (fallsB S q st nx = ((kn && (decide (st < a) || decide (nx < b))) || decide (nx < st))) ∧ Hid (∀ y, Below w.heap.size w y → (Instr.lookup 55 (.map v1) (mkP q) true).run Try.prog y = .ok (.tuple #[.agg #[.int .i64 a, .int .i64 b], .bool kn]) y) := by
    cases hS : S.bn q with
    | none => exact ⟨0, 0, false, by show _ = _; simp [fallsB, hS], fun y hb => by
        have := (hl.m1.below hb).lookOk kbP Try.underlying55 zero71 q
        rw [hS] at this
        exact this⟩
    | some x => exact ⟨x.1, x.2, true, by show _ = _; simp [fallsB, hS], fun y hb => by
        have := (hl.m1.below hb).lookOk kbP Try.underlying55 zero71 q
        rw [hS] at this
        exact this⟩
  have HS : Hid (∀ y, Below (Fw0 w q st nx).heap.size (Fw0 w q st nx) y → y.cell? ⟨p, 0, none⟩ = some (.map v1) ∧ y.cell? ⟨w.heap.size, 0, none⟩ = some (.string q.1) ∧ y.cell? ⟨w.heap.size, 1, none⟩ = some (.int .i64 q.2) ∧ y.cell? ⟨w.heap.size + 1, 0, none⟩ = some (.int .i64 st) ∧ y.cell? ⟨w.heap.size + 1, 1, none⟩ = some (.int .i64 nx) ∧ (Instr.lookup 55 (.map v1) (mkP q) true).run Try.prog y = .ok (.tuple #[.agg #[.int .i64 a, .int .i64 b], .bool kn]) y) := fun y hb => by
    have hy := HB.out y hb
    obtain ⟨c0, c1, c2, c3⟩ := Fw0.cells w q st nx
    have hf := fun {o : Nat} {v : Value} {c : Nat} (hc : (Fw0 w q st nx).cell? ⟨c, o, none⟩ = some v) => (hb.cell (World.block_lt_of_cell? _ _ hc)).trans hc
    exact ⟨(hl.below hy).cells.1, hf c0, hf c1, hf c2, hf c3, HLK.out y hy⟩
  have HSA : Hid (∀ o : Obj, ((Fw0 w q st nx).alloc o).drew.cell? ⟨p, 0, none⟩ = some (.map v1) ∧ ((Fw0 w q st nx).alloc o).drew.cell? ⟨w.heap.size, 0, none⟩ = some (.string q.1) ∧ ((Fw0 w q st nx).alloc o).drew.cell? ⟨w.heap.size, 1, none⟩ = some (.int .i64 q.2) ∧ ((Fw0 w q st nx).alloc o).drew.cell? ⟨w.heap.size + 1, 0, none⟩ = some (.int .i64 st) ∧ ((Fw0 w q st nx).alloc o).drew.cell? ⟨w.heap.size + 1, 1, none⟩ = some (.int .i64 nx) ∧ (Instr.lookup 55 (.map v1) (mkP q) true).run Try.prog ((Fw0 w q st nx).alloc o).drew = .ok (.tuple #[.agg #[.int .i64 a, .int .i64 b], .bool kn]) ((Fw0 w q st nx).alloc o).drew) := fun o => HS.out ((Fw0 w q st nx).alloc o).drew (below_drewN (below_box _) 1)
  have HBA : Hid (∀ o : Obj, Below w.heap.size w ((Fw0 w q st nx).alloc o).drew) := fun o => HB.out _ (below_drewN (below_box _) 1)
  have hS0 := HS.out (Fw0 w q st nx).drew (below_drewN (Below.refl _ _) 1)
  rw [HR.out]
  clear HR HLK hl
  obtain ⟨q0, q1⟩ := q
  simp only [mkP, vB, Fw0] at *
  go_enter Try.func26, Try.ntmps26
  go_wp2
  go_region_held3 (fun y : World => y.cell? ⟨p, 0, none⟩ = some (.map v1) ∧ y.cell? ⟨w.heap.size, 0, none⟩ = some (.string q0) ∧ y.cell? ⟨w.heap.size, 1, none⟩ = some (.int .i64 q1) ∧ y.cell? ⟨w.heap.size + 1, 0, none⟩ = some (.int .i64 st) ∧ y.cell? ⟨w.heap.size + 1, 1, none⟩ = some (.int .i64 nx) ∧ (Instr.lookup 55 (.map v1) (.agg #[.string q0, .int .i64 q1]) true).run Try.prog y = .ok (.tuple #[.agg #[.int .i64 a, .int .i64 b], .bool kn]) y) (first | exact hS0 | exact HSA.out _) (fail)
  all_goals
    obtain ⟨_, _, _, z3, z4, _⟩ := HSA.out (.cells #[.int .i64 a, .int .i64 b] 71)
    cases kn
    all_goals
      go_wp2
      all_goals
        first
          | (go_ret; exact ⟨retB (by simp), HBA.out _⟩)
          | (go_ret; exact ⟨rfl, HBA.out _⟩)
          | (go_ret; refine ⟨retB ?_, HBA.out _⟩; simp_all)
end Go.Proofs.Ytnnljdnaipjoiaa
