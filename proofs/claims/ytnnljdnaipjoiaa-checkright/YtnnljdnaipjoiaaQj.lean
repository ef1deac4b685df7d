/- The document's partition: made; Start, Next. -/
import Derived.Test.YtnnljdnaipjoiaaQi
namespace Go.Proofs.Ytnnljdnaipjoiaa
set_option linter.unusedSimpArgs false
set_option linter.unusedVariables false
open Go.RowKit
theorem PIs.cells {B p : Nat} {seg : Int} {r off cap : Nat} {L : List Sg} {y : World} (h : PIs B p seg r off cap L y) :
    y.cell? ⟨p, 0, none⟩ = some (.int .i64 seg) ∧ y.cell? ⟨p, 1, none⟩ = some (.int .i64 2000) ∧ y.cell? ⟨p, 2, none⟩ = some (.int .i64 (-1)) ∧ y.cell? ⟨p, 3, none⟩ = some (.bool true) ∧ y.cell? ⟨p, 4, none⟩ = some (.int .i64 3) ∧ y.cell? ⟨p, 5, none⟩ = some (.slice (some ⟨r, off, none⟩) L.length cap) ∧ ∀ i, y.frozen? ⟨p, i, none⟩ = false :=
  ⟨cell_of_row _ _ 0 _ _ _ h.box, cell_of_row _ _ 1 _ _ _ h.box, cell_of_row _ _ 2 _ _ _ h.box, cell_of_row _ _ 3 _ _ _ h.box, cell_of_row _ _ 4 _ _ _ h.box, cell_of_row _ _ 5 _ _ _ h.box, fun i => frozen_cells h.box⟩
theorem PIs.at {B p : Nat} {seg : Int} {r off cap : Nat} {L : List Sg} {y : World} (h : PIs B p seg r off cap L y) (i : Nat) (hi : i < L.length) : y.cell? ⟨r, off + i, none⟩ = some (.pointer (some ⟨(L.getD i sgz).g, 0, none⟩)) := by
  obtain ⟨cur, q1, q2, q3⟩ := h.ptr
  rw [cell_of_row _ _ _ _ _ _ q1]
  exact q3 i hi
theorem SgIs.cells {B : Nat} {y : World} {s : Sg} (h : SgIs B y s) : y.cell? ⟨s.g, 0, none⟩ = some (.int .i64 s.base) ∧ y.cell? ⟨s.g, 1, none⟩ = some (.slice s.a s.ss.length s.c) :=
  ⟨cell_of_row _ _ 0 _ _ _ h.box, cell_of_row _ _ 1 _ _ _ h.box⟩
theorem SgIs.row {B : Nat} {y : World} {s : Sg} (h : SgIs B y s) : BCells y s.a s.ss := by
  obtain ⟨a, c, e, hb⟩ := owns_brow h.own
  simp only [Sg.v, Value.slice.injEq, true_and] at e
  obtain ⟨rfl, _⟩ := e
  exact hb
/-- Numbers that do not wrap. -/
def Tame (b : Ba) : Prop := 0 ≤ b.base ∧ b.base ≤ 1000000 ∧ 0 ≤ b.span ∧ b.span ≤ 100
def nextS (s : Sg) : Int := if s.ss.length = 0 then s.base else (s.ss.getD (s.ss.length - 1) bsz).b.base + (s.ss.getD (s.ss.length - 1) bsz).b.span
def NewE (seg : Int) (w : World) (e : Ending) (w' : World) : Prop := ∃ p r g, e = .returned (.pointer (some ⟨p, 0, none⟩)) ∧ PIs w.heap.size p seg r 0 1 [⟨g, 0, none, 0, []⟩] w' ∧ Below w.heap.size w w'
theorem new_part (seg : Int) (w : World) (cs : Array Value) : NewE seg w (.returned (.pointer (some ⟨w.heap.size + 1 + 1 + 1, 0, none⟩)))
    ((((w.alloc (.cells cs 41)).alloc (.cells #[.int .i64 0, .slice none 0 0] 96)).alloc (.cells #[.pointer (some ⟨w.heap.size + 1, 0, none⟩)] 94)).alloc (.cells #[.int .i64 seg, .int .i64 2000, .int .i64 (-1), .bool true, .int .i64 3, .slice (some ⟨w.heap.size + 1 + 1, 0, none⟩) 1 1] 99)) := by
  generalize e1 : w.alloc (.cells cs 41) = y1
  have h1 : Below w.heap.size w y1 := by rw [← e1]; exact below_box _
  have s1 : y1.heap.size = w.heap.size + 1 := by rw [← e1]; simp
  generalize e2 : y1.alloc (.cells #[.int .i64 0, .slice none 0 0] 96) = y2
  have h2 : Below y1.heap.size y1 y2 := by rw [← e2]; exact below_box _
  have b2 : y2.heap[w.heap.size + 1]? = some (.cells #[.int .i64 0, .slice none 0 0] 96 (0, 0)) := by rw [← e2, ← s1]; exact heap_alloc_new _ _
  have s2 : y2.heap.size = w.heap.size + 1 + 1 := by rw [← e2, ← s1]; simp
  generalize e3 : y2.alloc (.cells #[.pointer (some ⟨w.heap.size + 1, 0, none⟩)] 94) = y3
  have h3 : Below y2.heap.size y2 y3 := by rw [← e3]; exact below_box _
  have b3 : y3.heap[w.heap.size + 1 + 1]? = some (.cells #[.pointer (some ⟨w.heap.size + 1, 0, none⟩)] 94 (0, 0)) := by rw [← e3, ← s2]; exact heap_alloc_new _ _
  have s3 : y3.heap.size = w.heap.size + 1 + 1 + 1 := by rw [← e3, ← s2]; simp
  generalize e4 : y3.alloc (.cells #[.int .i64 seg, .int .i64 2000, .int .i64 (-1), .bool true, .int .i64 3, .slice (some ⟨w.heap.size + 1 + 1, 0, none⟩) 1 1] 99) = y4
  have h4 : Below y3.heap.size y3 y4 := by rw [← e4]; exact below_box _
  have b4 : y4.heap[w.heap.size + 1 + 1 + 1]? = some (.cells #[.int .i64 seg, .int .i64 2000, .int .i64 (-1), .bool true, .int .i64 3, .slice (some ⟨w.heap.size + 1 + 1, 0, none⟩) 1 1] 99 (0, 0)) := by rw [← e4, ← s3]; exact heap_alloc_new _ _
  have b2' : y4.heap[w.heap.size + 1]? = some (.cells #[.int .i64 0, .slice none 0 0] 96 (0, 0)) := (h4.block _ (by omega)).trans ((h3.block _ (by omega)).trans b2)
  have b3' : y4.heap[w.heap.size + 1 + 1]? = some (.cells #[.pointer (some ⟨w.heap.size + 1, 0, none⟩)] 94 (0, 0)) := (h4.block _ (by omega)).trans b3
  refine ⟨_, w.heap.size + 1 + 1, w.heap.size + 1, rfl, ⟨by omega, b4, by omega, ⟨_, b3', by simp, fun i hi => ?_⟩, by simp, by unfold maxLen; omega, by simp, by simp, fun i hi => ?_, fun i hi => ?_⟩, h1.trans ((h2.mono (by omega)).trans ((h3.mono (by omega)).trans (h4.mono (by omega))))⟩
  · obtain rfl : i = 0 := by simpa using hi
    rfl
  · obtain rfl : i = 0 := by simpa using hi
    exact ⟨by simp [List.getD], b2', ⟨rfl, .inl ⟨rfl, rfl⟩⟩, fun k hk => by simp [List.getD] at hk, by simp [List.getD]⟩
  · simp at hi
set_option maxRecDepth 100000 in
theorem newPart_any (seg : Int) (w : World) : Calls Try.prog 13 #[.agg #[.int .i64 seg, .int .i64 2000, .int .i64 (-1), .bool true, .int .i64 3]] w fun e w' => NewE seg w e w' := by
  go_enter Try.func13, Try.ntmps13
  go_wp2_with fail
  go_ret
  exact new_part seg w _
set_option maxRecDepth 100000 in
theorem start_any {B p : Nat} {seg : Int} {r off cap : Nat} {L : List Sg} {y : World} (h : PIs B p seg r off cap L y) : Calls Try.prog 19 #[.pointer (some ⟨p, 0, none⟩)] y fun e z => e = .returned (.int .i64 (L.getD 0 sgz).base) ∧ z = y := by
  obtain ⟨_, _, _, _, _, c5, _⟩ := h.cells
  have hp0 : 0 < L.length := h.pos
  have hpI : (0 : Int) < (L.length : Int) := by omega
  have hat := h.at 0 hp0
  rw [Nat.add_zero] at hat
  obtain ⟨s0, s1⟩ := (h.seg 0 hp0).cells
  generalize L.getD 0 sgz = s at *
  clear h
  go_enter Try.func19, Try.ntmps19
  go_wp2_with fail
  go_ret
  exact ⟨rfl, rfl⟩
set_option maxRecDepth 100000 in
theorem segNext_any {B : Nat} {s : Sg} {y : World} (h : SgIs B y s) (ht : ∀ i, i < s.ss.length → Tame (s.ss.getD i bsz).b) : Calls Try.prog 41 #[.pointer (some ⟨s.g, 0, none⟩)] y fun e z => e = .returned (.int .i64 (nextS s)) ∧ Below y.heap.size y z := by
  obtain ⟨s0, s1⟩ := h.cells
  have hl := h.len
  have HN : Hid (nextS s = if s.ss.length = 0 then s.base else (s.ss.getD (s.ss.length - 1) bsz).b.base + (s.ss.getD (s.ss.length - 1) bsz).b.span) := rfl
  obtain ⟨nx, HX⟩ : ∃ n, Hid (nextS s = n) := ⟨_, rfl⟩
  rw [HX.out] at HN ⊢
  by_cases h0 : s.ss.length = 0
  · have HN2 : Hid (nx = s.base) := by show _ = _; rw [HN.out, if_pos h0]
    rw [h0] at s1
    clear HN HX ht hl
    go_enter Try.func41, Try.ntmps41
    go_wp2_with fail
    go_ret
    exact ⟨by rw [HN2.out]; rfl, Below.refl _ _⟩
  · obtain ⟨g, off, ha, c0, c1, c2, c3, c4⟩ := h.row (s.ss.length - 1) (by omega)
    have HN2 : Hid (nx = (s.ss.getD (s.ss.length - 1) bsz).b.base + (s.ss.getD (s.ss.length - 1) bsz).b.span) := by show _ = _; rw [HN.out, if_neg h0]
    obtain ⟨t0, t1, t2, t3⟩ := ht (s.ss.length - 1) (by omega)
    generalize s.ss.getD (s.ss.length - 1) bsz = b at *
    rw [ha] at s1
    have hn0 : ((s.ss.length : Int) == 0) = false := by rw [beq_eq_false_iff_ne]; omega
    have hw1 : IntKind.i64.wrap ((s.ss.length : Int) - 1) = ((s.ss.length - 1 : Nat) : Int) := by rw [IntKind.wrap_i64]; omega
    have hw2 : IntKind.i64.wrap (b.b.base + b.b.span) = b.b.base + b.b.span := by rw [IntKind.wrap_i64]; omega
    have hi1 : (0 : Int) ≤ ((s.ss.length - 1 : Nat) : Int) := by omega
    have hi2 : ((s.ss.length - 1 : Nat) : Int) < (s.ss.length : Int) := by omega
    obtain ⟨n, HL⟩ : ∃ n, Hid (s.ss.length - 1 = n) := ⟨_, rfl⟩
    rw [HL.out] at c0 c1 c2 c3 c4 hw1 hi1 hi2
    obtain ⟨⟨bb, bs, bp, bq, brs⟩, ba, bc⟩ := b
    simp only at c0 c1 c2 c3 c4 hw2 HN2
    have hS0 : y.drew.cell? ⟨s.g, 1, none⟩ = some (.slice (some ⟨g, off, none⟩) s.ss.length s.c) ∧ y.drew.cell? ⟨g, off + n * 5, none⟩ = some (.int .i64 bb) ∧ y.drew.cell? ⟨g, off + n * 5 + 1, none⟩ = some (.int .i64 bs) ∧ y.drew.cell? ⟨g, off + n * 5 + 2, none⟩ = some (.int .i64 bp) ∧ y.drew.cell? ⟨g, off + n * 5 + 3, none⟩ = some (.int .i64 bq) ∧ y.drew.cell? ⟨g, off + n * 5 + 4, none⟩ = some (.slice ba brs.length bc) := ⟨s1, c0, c1, c2, c3, c4⟩
    clear HN HX ht hl HL h
    go_enter Try.func41, Try.ntmps41
    go_wp2_with fail
    go_region_held3 (fun y : World => y.cell? ⟨s.g, 1, none⟩ = some (.slice (some ⟨g, off, none⟩) s.ss.length s.c) ∧ y.cell? ⟨g, off + n * 5, none⟩ = some (.int .i64 bb) ∧ y.cell? ⟨g, off + n * 5 + 1, none⟩ = some (.int .i64 bs) ∧ y.cell? ⟨g, off + n * 5 + 2, none⟩ = some (.int .i64 bp) ∧ y.cell? ⟨g, off + n * 5 + 3, none⟩ = some (.int .i64 bq) ∧ y.cell? ⟨g, off + n * 5 + 4, none⟩ = some (.slice ba brs.length bc)) (first | exact hS0 | go_keep) (fail)
    go_wp2
    go_ret
    exact ⟨by rw [HN2.out]; rfl, (below_box _).drew⟩
set_option maxRecDepth 100000 in
theorem next_any {B p : Nat} {seg : Int} {r off cap : Nat} {L : List Sg} {y : World} (h : PIs B p seg r off cap L y) (ht : ∀ i, i < (lastS L).ss.length → Tame ((lastS L).ss.getD i bsz).b) :
    Calls Try.prog 20 #[.pointer (some ⟨p, 0, none⟩)] y fun e z => e = .returned (.int .i64 (nextS (lastS L))) ∧ Below y.heap.size y z := by
  obtain ⟨_, _, _, _, _, c5, _⟩ := h.cells
  have hp0 : 0 < L.length := h.pos
  have hl := h.len
  have hat := h.at (L.length - 1) (by omega)
  have HNX : Hid (Calls Try.prog 41 #[.pointer (some ⟨(lastS L).g, 0, none⟩)] y.drew fun e z => e = .returned (.int .i64 (nextS (lastS L))) ∧ Below y.heap.size y z) := by
    have hs : SgIs B y.drew (lastS L) := (h.seg (L.length - 1) (by omega)).below (Below.refl _ _).drew
    exact (segNext_any hs ht).mono fun e z ⟨q1, q2⟩ => ⟨q1, (Below.refl _ _).drew.trans q2⟩
  have e : L.getD (L.length - 1) sgz = lastS L := rfl
  rw [e] at hat
  generalize nextS (lastS L) = nx at *
  generalize (lastS L).g = g at *
  have hw1 : IntKind.i64.wrap ((L.length : Int) - 1) = ((L.length - 1 : Nat) : Int) := by rw [IntKind.wrap_i64]; omega
  have hi1 : (0 : Int) ≤ ((L.length - 1 : Nat) : Int) := by omega
  have hi2 : ((L.length - 1 : Nat) : Int) < (L.length : Int) := by omega
  obtain ⟨n, HL⟩ : ∃ n, Hid (L.length - 1 = n) := ⟨_, rfl⟩
  rw [HL.out] at hat hw1 hi1 hi2
  have hS0 : y.drew.cell? ⟨p, 5, none⟩ = some (.slice (some ⟨r, off, none⟩) L.length cap) ∧ y.drew.cell? ⟨r, off + n, none⟩ = some (.pointer (some ⟨g, 0, none⟩)) := ⟨c5, hat⟩
  clear h ht HL e
  go_enter Try.func20, Try.ntmps20
  go_wp2_with fail
  go_region_held3 (fun y : World => y.cell? ⟨p, 5, none⟩ = some (.slice (some ⟨r, off, none⟩) L.length cap) ∧ y.cell? ⟨r, off + n, none⟩ = some (.pointer (some ⟨g, 0, none⟩))) (first | exact hS1 | exact hS0) ((go_at_call 41; refine Calls.mono HNX.out ?_; rintro e z ⟨rfl, hb⟩; have hS1 : z.cell? ⟨p, 5, none⟩ = some (.slice (some ⟨r, off, none⟩) L.length cap) ∧ z.cell? ⟨r, off + n, none⟩ = some (.pointer (some ⟨g, 0, none⟩)) := ⟨(hb.cell (World.block_lt_of_cell? _ _ c5)).trans c5, (hb.cell (World.block_lt_of_cell? _ _ hat)).trans hat⟩))
  go_wp2
  go_ret
  exact ⟨rfl, hb⟩
theorem above_l (a b d : Int) (w : World) : Calls Try.prog 36 #[.int .i64 a, .int .i64 b, .int .i64 d] w fun e w' => BoolE e ∧ w' = w := by
  go_enter Try.func36, Try.ntmps36
  go_wp2_with fail
  all_goals
    go_ret
    exact ⟨⟨_, rfl⟩, rfl⟩
end Go.Proofs.Ytnnljdnaipjoiaa
