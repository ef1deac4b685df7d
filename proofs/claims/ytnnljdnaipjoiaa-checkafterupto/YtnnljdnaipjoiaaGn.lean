/- again: what a fetch is told behind others. -/
import Derived.Test.YtnnljdnaipjoiaaSo
namespace Go.Proofs.Ytnnljdnaipjoiaa
set_option linter.unusedSimpArgs false
set_option linter.unusedVariables false
open Go.RowKit
set_option maxHeartbeats 4000000 in
set_option maxRecDepth 100000 in
theorem again_any (a : Option Addr) (cap : Nat) (l : List Sp) (bt : ByteArray) (bp bs bn bf : Int) (bss : List Bs) (ba : Option Addr) (bc : Nat) (w : World) (hl : ∀ y, Below w.heap.size w y → SsUp y a l) (hs : ∀ y, Below w.heap.size w y → SpUp y ⟨bt, bp, bs, bn, bf, bss, ba, bc⟩)
    (hok : ∀ i, i < l.length → StepOk (l.getD i spz)) (hos : StepOk ⟨bt, bp, bs, bn, bf, bss, ba, bc⟩) (hc : costL l + costS ⟨bt, bp, bs, bn, bf, bss, ba, bc⟩ ≤ 1000000) :
    Calls Try.prog 23 #[.slice a l.length cap, .agg #[.string bt, .int .i64 bp, .int .i64 bs, .int .i64 bn, .int .i64 bf, .slice ba bss.length bc]] w fun e z => e = .returned (.int .i64 (saw (sawL l ls0) (bt, bp) bs bn bf (bsOf bss)).1) ∧ Below w.heap.size w z := by
  have hlen := (hl w (Below.refl _ _)).len
  unfold big at hlen
  have HU : Hid (∀ y, Below w.heap.size w y → SsUp y a l) := hl
  have HOK : Hid (∀ i, i < l.length → StepOk (l.getD i spz)) := hok
  have HCO : Hid (costL l + (1 + bss.length + sumR bss) ≤ 1000000) := hc
  have HBI : Hid (∀ y, Below w.heap.size w y → BIn y ba bss) := fun y hb => BIn.of_up (hs y hb).b hos.b
  have h0 : CkS w.heap.size (w.alloc (.cells #[.string bt, .int .i64 bp, .int .i64 bs, .int .i64 bn, .int .i64 bf, .slice ba bss.length bc] 35)).heap.size 0 ls0 ((w.alloc (.cells #[.string bt, .int .i64 bp, .int .i64 bs, .int .i64 bn, .int .i64 bf, .slice ba bss.length bc] 35)).alloc (.cells #[.slice none 0 0, .slice none 0 0, .slice none 0 0] 32)) := CkS.zero (by simp)
  rw [show (w.alloc (.cells #[.string bt, .int .i64 bp, .int .i64 bs, .int .i64 bn, .int .i64 bf, .slice ba bss.length bc] 35)).heap.size = w.heap.size + 1 by simp] at h0
  have HC0 : Hid (CkS w.heap.size (w.heap.size + 1) 0 ls0 ((w.alloc (.cells #[.string bt, .int .i64 bp, .int .i64 bs, .int .i64 bn, .int .i64 bf, .slice ba bss.length bc] 35)).alloc (.cells #[.slice none 0 0, .slice none 0 0, .slice none 0 0] 32))) := h0
  have HX0 : Hid (((w.alloc (.cells #[.string bt, .int .i64 bp, .int .i64 bs, .int .i64 bn, .int .i64 bf, .slice ba bss.length bc] 35)).alloc (.cells #[.slice none 0 0, .slice none 0 0, .slice none 0 0] 32)).heap[w.heap.size]? = some (.cells #[.string bt, .int .i64 bp, .int .i64 bs, .int .i64 bn, .int .i64 bf, .slice ba bss.length bc] 35 (0, 0))) := (Below.heap_alloc _ _ _ (by simp)).trans (heap_alloc_new w _)
  have HB0 : Hid (Below w.heap.size w ((w.alloc (.cells #[.string bt, .int .i64 bp, .int .i64 bs, .int .i64 bn, .int .i64 bf, .slice ba bss.length bc] 35)).alloc (.cells #[.slice none 0 0, .slice none 0 0, .slice none 0 0] 32))) := (below_box _).trans ((below_box _).mono (by simp))
  clear hl hs hok hos hc h0
  go_enter Try.func23, Try.ntmps23
  go_wp2
  go_loopw [6] (fun i wr => ∃ (k : Nat), k ≤ l.length ∧ i = .int .i64 k ∧ CkS w.heap.size (w.heap.size + 1) (costL (l.take k)) (sawL (l.take k) ls0) wr ∧ wr.heap[w.heap.size]? = some (.cells #[.string bt, .int .i64 bp, .int .i64 bs, .int .i64 bn, .int .i64 bf, .slice ba bss.length bc] 35 (0, 0)) ∧ Below w.heap.size w wr) (fun i _ => l.length - (intOf i).toNat)
  case atStart => exact ⟨0, by omega, rfl, HC0.out, HX0.out, HB0.out⟩
  case round =>
    clear HC0 HX0 HB0
    obtain ⟨k, hk, rfl, hck, hx, hb⟩ := hrel
    have HB : Hid (Below w.heap.size w wr) := hb
    have HX : Hid (wr.heap[w.heap.size]? = some (.cells #[.string bt, .int .i64 bp, .int .i64 bs, .int .i64 bn, .int .i64 bf, .slice ba bss.length bc] 35 (0, 0))) := hx
    have HCK : Hid (CkS w.heap.size (w.heap.size + 1) (costL (l.take k)) (sawL (l.take k) ls0) wr) := hck
    clear hck hx
    by_cases hlt : k < l.length
    · have hltI : (k : Int) < (l.length : Int) := by omega
      obtain ⟨g, off, rfl, c0, c1, c2, c3, c4, c5⟩ := (HU.out wr hb).cells k hlt
      have HRW : Hid (∀ y, Below w.heap.size w y → SpUp y (l.getD k spz) ∧ y.cell? ⟨g, off + k * 6, none⟩ = some (.string (l.getD k spz).tp) ∧ y.cell? ⟨g, off + k * 6 + 1, none⟩ = some (.int .i64 (l.getD k spz).pt) ∧ y.cell? ⟨g, off + k * 6 + 2, none⟩ = some (.int .i64 (l.getD k spz).st) ∧ y.cell? ⟨g, off + k * 6 + 3, none⟩ = some (.int .i64 (l.getD k spz).nx) ∧ y.cell? ⟨g, off + k * 6 + 4, none⟩ = some (.int .i64 (l.getD k spz).fr) ∧ y.cell? ⟨g, off + k * 6 + 5, none⟩ = some (.slice (l.getD k spz).a (l.getD k spz).ss.length (l.getD k spz).cap)) := fun y hy => by
        have h := HU.out y hy
        obtain ⟨g', off', e, q0, q1, q2, q3, q4, q5⟩ := h.cells k hlt
        injection e with e
        injection e with e1 e2
        subst e1; subst e2
        exact ⟨h.each k hlt, q0, q1, q2, q3, q4, q5⟩
      have HST : Hid (StepOk (l.getD k spz)) := HOK.out k hlt
      have HCS : Hid (costL (l.take (k + 1)) = costL (l.take k) + costS (l.getD k spz)) := costL_snoc l k hlt
      have HC4 : Hid (costL (l.take (k + 1)) ≤ costL l) := costL_le _ _
      have HSW : Hid (sawL (l.take (k + 1)) ls0 = _) := sawL_take l k hlt ls0
      generalize sawL (l.take k) ls0 = S at *
      generalize costL (l.take k) = N at *
      generalize l.getD k spz = s at *
      obtain ⟨tp, pt, st, nx, fr, ss, sa, sc⟩ := s
      simp only at HRW
      have hco : N + (1 + ss.length + sumR ss) ≤ 1000000 := by
        have h1 := HCS.out
        have h2 := HC4.out
        have h3 := HCO.out
        unfold costS at h1
        simp only at h1
        omega
      have HS0 : Hid (∀ y, Below wr.heap.size wr y → y.cell? ⟨g, off + k * 6, none⟩ = some (.string tp) ∧ y.cell? ⟨g, off + k * 6 + 1, none⟩ = some (.int .i64 pt) ∧ y.cell? ⟨g, off + k * 6 + 2, none⟩ = some (.int .i64 st) ∧ y.cell? ⟨g, off + k * 6 + 3, none⟩ = some (.int .i64 nx) ∧ y.cell? ⟨g, off + k * 6 + 4, none⟩ = some (.int .i64 fr) ∧ y.cell? ⟨g, off + k * 6 + 5, none⟩ = some (.slice sa ss.length sc)) := fun y hy => (HRW.out y (HB.out.trans (hy.mono HB.out.size))).2
      have HS1 : Hid (Calls Try.prog 12 #[.pointer (some ⟨w.heap.size + 1, 0, none⟩), .string tp, .int .i64 pt, .int .i64 st, .int .i64 nx, .int .i64 fr, .slice sa ss.length sc] wr.drew fun e z => e = .returned (.int .i64 (saw S (tp, pt) st nx fr (bsOf ss)).1) ∧ CkS w.heap.size (w.heap.size + 1) (costL (l.take (k + 1))) (sawL (l.take (k + 1)) ls0) z ∧ z.heap[w.heap.size]? = some (.cells #[.string bt, .int .i64 bp, .int .i64 bs, .int .i64 bn, .int .i64 bf, .slice ba bss.length bc] 35 (0, 0)) ∧ Below w.heap.size w z) := by
        have hbd : Below w.heap.size w wr.drew := below_drewN HB.out 1
        refine (msaw_any tp pt st nx fr sa sc ss wr.drew (HCK.out.below (below_drewN (Below.refl _ _) 1)) HB.out.size (fun y hm => BIn.of_up (HRW.out y (hbd.trans (hm.under HB.out.size))).1.b HST.out.b) hco).mono fun e z ⟨q1, q2, q3⟩ => ⟨q1, by rw [HSW.out, HCS.out]; exact q2, mk_kept (y := wr.drew) HX.out q3 (by unfold mineT; decide), hbd.trans (q3.under HB.out.size)⟩
      have hS0 := HS0.out wr.drew (below_drewN (Below.refl _ _) 1)
      generalize saw S (tp, pt) st nx fr (bsOf ss) = Q1 at *
      obtain ⟨r1, T1⟩ := Q1
      have HS2 : Hid (∀ z, Below w.heap.size w z → z.cell? ⟨g, off + k * 6, none⟩ = some (.string tp) ∧ z.cell? ⟨g, off + k * 6 + 1, none⟩ = some (.int .i64 pt) ∧ z.cell? ⟨g, off + k * 6 + 2, none⟩ = some (.int .i64 st) ∧ z.cell? ⟨g, off + k * 6 + 3, none⟩ = some (.int .i64 nx) ∧ z.cell? ⟨g, off + k * 6 + 4, none⟩ = some (.int .i64 fr) ∧ z.cell? ⟨g, off + k * 6 + 5, none⟩ = some (.slice sa ss.length sc)) := fun z hz => (HRW.out z hz).2
      clear HS0 HST HCS HC4 HSW HRW hco hb HCK HX c0 c1 c2 c3 c4 c5
      go_wp2
      go_region_held3 (fun y : World => y.cell? ⟨g, off + k * 6, none⟩ = some (.string tp) ∧ y.cell? ⟨g, off + k * 6 + 1, none⟩ = some (.int .i64 pt) ∧ y.cell? ⟨g, off + k * 6 + 2, none⟩ = some (.int .i64 st) ∧ y.cell? ⟨g, off + k * 6 + 3, none⟩ = some (.int .i64 nx) ∧ y.cell? ⟨g, off + k * 6 + 4, none⟩ = some (.int .i64 fr) ∧ y.cell? ⟨g, off + k * 6 + 5, none⟩ = some (.slice sa ss.length sc)) (first | exact hS1 | exact hS0) ((go_at_call 12; refine Calls.mono HS1.out ?_; rintro e y1 ⟨rfl, hC1, hX1, hB1⟩; have hS1 := HS2.out y1 hB1))
      clear hS0 hS1
      go_wp2
      exact ⟨⟨k + 1, by omega, by go_num, hC1, hX1, hB1⟩, by simp [intOf]; omega⟩
    · obtain rfl : k = l.length := by omega
      have HE : Hid (Calls Try.prog 12 #[.pointer (some ⟨w.heap.size + 1, 0, none⟩), .string bt, .int .i64 bp, .int .i64 bs, .int .i64 bn, .int .i64 bf, .slice ba bss.length bc] wr fun e z => e = .returned (.int .i64 (saw (sawL l ls0) (bt, bp) bs bn bf (bsOf bss)).1) ∧ Below w.heap.size w z) := by
        have hck := HCK.out
        rw [List.take_length] at hck
        exact (msaw_any bt bp bs bn bf ba bc bss wr hck HB.out.size (fun y hm => HBI.out y (HB.out.trans (hm.under HB.out.size))) HCO.out).mono fun e z ⟨q1, q2, q3⟩ => ⟨q1, HB.out.trans (q3.under HB.out.size)⟩
      obtain ⟨x0, x1, x2, x3, x4, x5⟩ := six_cells' HX.out
      clear HCK hb
      go_wp2_with (go_at_call 12; refine Calls.mono HE.out ?_; rintro e y1 ⟨rfl, hB1⟩)
      go_ret
      exact ⟨rfl, hB1⟩
end Go.Proofs.Ytnnljdnaipjoiaa
