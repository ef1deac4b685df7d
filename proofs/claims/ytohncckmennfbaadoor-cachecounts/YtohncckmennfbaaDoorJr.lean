/- record's last step: the map with a slot more, and the table of it. -/
import Derived.Test.YtohncckmennfbaaDoorJe
namespace Go.Proofs.YtohncckmennfbaaDoor
set_option linter.unusedSimpArgs false
set_option linter.unusedVariables false
open Go.RowKit Go.MapKept Go.Proofs
open Go.ChangeMaps (setBlock)
/-- A row of changes: their homes, their data. -/
def ChRow (w : World) (lk : Nat) (hl : List Nat) (ds : List Value) : Prop := ds.length = hl.length ∧ ∀ i, i < hl.length → w.cell? ⟨lk, i * 2, none⟩ = some (.int .i64 ((hl.getD i 0 : Nat) : Int)) ∧ w.cell? ⟨lk, i * 2 + 1, none⟩ = some (ds.getD i undef) ∧ ∃ a l c, ds.getD i undef = .slice a l c
theorem ChRow.blk {w w' : World} {lk : Nat} {hl : List Nat} {ds : List Value} (h : ChRow w lk hl ds) (e : w'.heap[lk]? = w.heap[lk]?) : ChRow w' lk hl ds :=
  ⟨h.1, fun i hi => by obtain ⟨a, b, c⟩ := h.2 i hi; exact ⟨(cell_blk e).trans a, (cell_blk e).trans b, c⟩⟩
theorem ChRow.lt {w : World} {lk : Nat} {hl : List Nat} {ds : List Value} (h : ChRow w lk hl ds) (hn : hl ≠ []) : lk < w.heap.size := by
  obtain ⟨a, _⟩ := h.2 0 (by cases hl with | nil => exact absurd rfl hn | cons => simp)
  exact World.block_lt_of_cell? _ _ a
set_option maxRecDepth 100000 in
set_option maxHeartbeats 1000000 in
theorem rc2_any {B : Nat} {E : List Nat} {w1 w : World} {j dp jb lx sb lk cap : Nat} {d : Dv} {T : List (List Nat)} {s t : Nat → List Nat} {hl : List Nat} {ds : List Value} (hF : Fr B E w1 w) (hJ : JP B E w j dp d T false) (cj : w.cell? ⟨jb, 0, none⟩ = some (.pointer (some ⟨j, 0, none⟩)))
    (cl : w.cell? ⟨lx, 0, none⟩ = some (.slice (some ⟨lk, 0, none⟩) hl.length cap)) (cs : w.cell? ⟨sb, 0, none⟩ = some (.int .i64 (T.length : Int))) (hrow : ChRow w lk hl ds) (hne : hl ≠ []) (hnd : hl.Nodup) (h60 : hl.length ≤ 60) (h4 : T.length < 4)
    (hR : Rest d T s) (hY : Ready d (T ++ [hl]) t) (ho : d.ops + 2 ≤ 1000000) :
    Calls Tryd.prog 78 #[.pointer (some ⟨jb, 0, none⟩), .pointer (some ⟨lx, 0, none⟩), .pointer (some ⟨sb, 0, none⟩)] w
      (Ans (fun w' => Fr B E w1 w' ∧ ∃ d', JP B E w' j dp d' (T ++ [hl]) false ∧ Rest d' (T ++ [hl]) t ∧ Next d d' 2) (fun w' => Fr B E w1 w' ∧ ∃ d' T'', JP B E w' j dp d' T'' false ∧ Safe d' s t ∧ Next d d' 2 ∧ d'.cut = true)) := by
  have hlkl := hrow.lt hne
  have hB : B ≤ w.heap.size := Nat.le_trans hF.big hF.size
  obtain ⟨FP, ⟨F, lb, rfl, hd, hj, h1, h2⟩, hFP⟩ := id hJ
  obtain ⟨c0, c1, c2, c3⟩ := hj.c
  obtain ⟨m, es, clk, hbm, hEm, hsm⟩ := hj.live
  have hCl := cloneL_any lb es clk w hbm
  have hM0 : MapIs (w.alloc (.map es clk)) w.heap.size mkP (lv (T ++ [hl.take 0])) m := by
    rw [List.take_zero, lv_nil]
    exact ⟨es, clk, (MapKept.heap_alloc w _).1, hEm, hsm⟩
  have b1 : Below w.heap.size w (w.alloc (.map es clk)) := (Below.refl _ _).alloc (Nat.le_refl _) _
  have hcl1 : (w.alloc (.map es clk)).cell? ⟨lx, 0, none⟩ = some (.slice (some ⟨lk, 0, none⟩) hl.length cap) := by rw [b1.cell (World.block_lt_of_cell? _ _ cl)]; exact cl
  have HTU : Hid (∀ w' m', Below w.heap.size w w' → MapIs w' w.heap.size mkP (lv (T ++ [hl])) m' → Calls Tryd.prog 76 #[.pointer (some ⟨j, 0, none⟩), .map (some w.heap.size), .int .i64 ((T.length : Int) + 1)] w'
      (Ans (fun w' => Fr B E w1 w' ∧ ∃ d', JP B E w' j dp d' (T ++ [hl]) false ∧ Rest d' (T ++ [hl]) t ∧ Next d d' 2) (fun w' => Fr B E w1 w' ∧ ∃ d' T'', JP B E w' j dp d' T'' false ∧ Safe d' s t ∧ Next d d' 2 ∧ d'.cut = true))) := fun w' m' hb hM => by
    have := turn_any (T' := T ++ [hl]) (t := t) (hF.below hb) ((hJ.ext (E' := w.heap.size :: E) (fun x hx => by rcases List.mem_cons.1 hx with rfl | q; exact .inr (Nat.le_refl _); exact .inl q)).below hb) hM ⟨hB, fun q => by have := hF.ltw _ q; omega⟩ hR hY ho
    rw [show ((T ++ [hl]).length : Int) = (T.length : Int) + 1 by simp] at this
    exact this
  have HBX : Hid (∀ w', Below w.heap.size w w' → w'.cell? ⟨jb, 0, none⟩ = some (.pointer (some ⟨j, 0, none⟩)) ∧ w'.cell? ⟨sb, 0, none⟩ = some (.int .i64 (T.length : Int)) ∧ ChRow w' lk hl ds) := fun w' hb =>
    ⟨by rw [hb.cell (World.block_lt_of_cell? _ _ cj)]; exact cj, by rw [hb.cell (World.block_lt_of_cell? _ _ cs)]; exact cs, hrow.blk (hb.block _ hlkl)⟩
  have hsbl : sb < w.heap.size := World.block_lt_of_cell? _ _ cs
  have hlI : (hl.length : Int) ≤ 60 := by omega
  clear hd hj h1 h2 hFP hEm hsm hJ hR hY
  go_enter Tryd.func78, Tryd.ntmps78
  go_wp2_with (go_at_call 79; refine hCl.mono ?_; rintro e w2 ⟨rfl, hw⟩; subst w2)
  go_loopw [14] (fun i wr => ∃ k m', k ≤ hl.length ∧ i = .int .i64 (k : Int) ∧ MapIs wr w.heap.size mkP (lv (T ++ [hl.take k])) m' ∧ Below w.heap.size w wr) (fun i _ => hl.length - (intOf i).toNat)
  case atStart => exact ⟨0, m, by omega, rfl, hM0, b1⟩
  case round =>
    clear hM0 b1 hcl1 hCl hbm cj cs cl
    obtain ⟨k, m', hk, rfl, hM, hbw⟩ := hrel
    obtain ⟨q1, q2, q3⟩ := HBX.out wr hbw
    by_cases hlt : k < hl.length
    · have hltI : (k : Int) < (hl.length : Int) := by omega
      obtain ⟨r1, r2, a, len, cp, r3⟩ := q3.2 k hlt
      rw [r3] at r2
      have HPT : Hid (put (lv (T ++ [hl.take k])) (T.length, hl.getD k 0) (.int .i64 ((1 + 60 * T.length + k : Nat) : Int)) = lv (T ++ [hl.take (k + 1)])) := lv_put hnd hlt
      generalize hl.getD k 0 = H at *
      have b5 : Below wr.heap.size wr (wr.alloc (.cells #[.int .i64 (H : Int), .slice a len cp] 94)) := (Below.refl _ _).alloc (Nat.le_refl _) _
      have hM5 := hM.below b5
      obtain ⟨es', cl', hst, hE', hsz'⟩ := hM5.store kbL Tryd.underlying77 (T.length, H) (.int .i64 ((1 + 60 * T.length + k : Nat) : Int))
      have hlm : w.heap.size ≠ wr.heap.size := by have := hM.lt; omega
      have cb0 : (wr.alloc (.cells #[.int .i64 (H : Int), .slice a len cp] 94)).cell? ⟨wr.heap.size, 0, none⟩ = some (.int .i64 (H : Int)) := by rw [cell_of_row _ _ _ _ _ _ (heap_alloc_new wr _)]; rfl
      have q2' : (wr.alloc (.cells #[.int .i64 (H : Int), .slice a len cp] 94)).cell? ⟨sb, 0, none⟩ = some (.int .i64 (T.length : Int)) := by rw [b5.cell (World.block_lt_of_cell? _ _ q2)]; exact q2
      have hS1 : (wr.alloc (.cells #[.int .i64 (H : Int), .slice a len cp] 94)).cell? ⟨sb, 0, none⟩ = some (.int .i64 (T.length : Int)) ∧ (wr.alloc (.cells #[.int .i64 (H : Int), .slice a len cp] 94)).cell? ⟨wr.heap.size, 0, none⟩ = some (.int .i64 (H : Int)) := ⟨q2', cb0⟩
      have hS2 : (setBlock (wr.alloc (.cells #[.int .i64 (H : Int), .slice a len cp] 94)) w.heap.size (.map es' cl')).cell? ⟨sb, 0, none⟩ = some (.int .i64 (T.length : Int)) ∧ (setBlock (wr.alloc (.cells #[.int .i64 (H : Int), .slice a len cp] 94)) w.heap.size (.map es' cl')).cell? ⟨wr.heap.size, 0, none⟩ = some (.int .i64 (H : Int)) :=
        ⟨(cell_blk (setBlock_other _ _ _ _ (by omega))).trans q2', (cell_blk (setBlock_other _ _ _ _ (Ne.symm hlm))).trans cb0⟩
      have hst2 := hst (wr.alloc (.cells #[.int .i64 (H : Int), .slice a len cp] 94)).drew rfl
      have HD : Hid (∀ w', Calls Tryd.prog 63 #[.int .i64 (T.length : Int), .int .i64 (k : Int)] w' fun e w'' => e = .returned (.int .i64 ((1 + 60 * T.length + k : Nat) : Int)) ∧ w'' = w') := fun w' => dataBlock_any T.length k w' (by omega) (by omega)
      have HNX : Hid (MapIs (setBlock (wr.alloc (.cells #[.int .i64 (H : Int), .slice a len cp] 94)).drew w.heap.size (.map es' cl')) w.heap.size mkP (lv (T ++ [hl.take (k + 1)])) (m' + 1) ∧ Below w.heap.size w (setBlock (wr.alloc (.cells #[.int .i64 (H : Int), .slice a len cp] 94)).drew w.heap.size (.map es' cl'))) := by
        refine ⟨⟨es', cl', setBlock_same _ _ _ hM5.lt, by rw [← HPT.out]; exact hE', hsz'⟩, ?_⟩
        have hb6 := hbw.trans (b5.mono hbw.size)
        exact ⟨hb6.os, hb6.tape, hb6.output, by simpa [Go.ChangeMaps.setBlock] using hb6.size, fun x hx => (setBlock_other _ _ _ _ (by omega)).trans (hb6.block x hx)⟩
      simp only [mkP] at hst2
      clear hM hM5 hst hE' hsz' HPT q3 r3 hnd
      generalize 1 + 60 * T.length + k = D at *
      go_wp2
      go_region_held3 (fun w : World => w.cell? ⟨sb, 0, none⟩ = some (.int .i64 (T.length : Int)) ∧ w.cell? ⟨wr.heap.size, 0, none⟩ = some (.int .i64 (H : Int))) (first | exact hS1 | exact hS2)
        ((go_at_call 63; refine (HD.out _).mono ?_; rintro e w2 ⟨rfl, hw⟩; subst w2))
      all_goals go_wp2
      all_goals exact ⟨⟨k + 1, m' + 1, by omega, by go_num, HNX.out.1, HNX.out.2⟩, by simp [intOf]; omega⟩
    · obtain rfl : k = hl.length := by omega
      rw [List.take_length] at hM
      have HT2 : Hid _ := HTU.out wr m' hbw hM
      go_wp2_with (go_at_call 76; refine Calls.mono HT2.out ?_; rintro e w4 ⟨c, rfl, hc⟩)
      go_ret
      exact ⟨c, rfl, hc⟩
end Go.Proofs.YtohncckmennfbaaDoor
