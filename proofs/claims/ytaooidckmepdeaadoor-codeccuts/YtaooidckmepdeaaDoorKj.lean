/- What a request, and a response, has. -/
import Derived.Test.YtaooidckmepdeaaDoorKi
namespace Go.Proofs.YtaooidckmepdeaaDoor
set_option linter.unusedSimpArgs false
set_option linter.unusedVariables false
open Go.RowKit
set_option maxHeartbeats 1000000 in
set_option maxRecDepth 100000 in
theorem bodyQ_any (k i : Int) (b : Bd) (c : Bool) (ra : Option Addr) (rc : Nat) (h : RqB b c) (w : World) :
    Calls Tryd.prog 25 #[.agg (rqc k i b c ra rc)] w fun e w' => e = .returned (.agg (bdc b (ptR ra rc))) ∧ Below w.heap.size w w' := by
  cases c
  · have HQ : Hid (((((((((((((((zbd).setIfInBounds 20 (.string (b 0).t)).setIfInBounds 21 (.string (b 1).t)).setIfInBounds 2 (.int .i64 (b 2).n)).setIfInBounds 3 (.int .i64 (b 3).n)).setIfInBounds 4 (.int .i64 (b 4).n)).setIfInBounds 5 (.int .i64 (b 5).n)).setIfInBounds 6 (.int .i64 (b 6).n)).setIfInBounds 8 (.int .i64 (b 8).n)).setIfInBounds 9 (.int .i64 (b 9).n)).setIfInBounds 10 (.int .i64 (b 10).n)).setIfInBounds 12 (.int .i64 (b 12).n)).setIfInBounds 13 (.int .i64 (b 13).n)).setIfInBounds 14 (.int .i64 (b 14).n)).setIfInBounds 40 (.slice ra (b 11).rs.length rc) = bdc b (ptR ra rc)) := bq_false b ra rc h
    have HZ : Hid ((bdc b (ptR ra rc)).size = 44) := bdc_size _ _
    have HONE : Hid ((bdc b (ptR ra rc)).all (·.oneCell') = true) := all_one
    have HB : Hid (BB w 26 (rqc k i b false ra rc) zbd ((w.alloc (.cells (rqc k i b false ra rc) 26)).alloc (.cells (List.toArray (Value.int .i64 0 :: Value.int .i64 0 :: Value.int .i64 0 :: Value.int .i64 0 :: Value.int .i64 0 :: Value.int .i64 0 :: Value.int .i64 0 :: Value.int .i64 0 :: Value.int .i64 0 :: Value.int .i64 0 :: Value.int .i64 0 :: Value.int .i64 0 :: Value.int .i64 0 :: Value.int .i64 0 :: Value.int .i64 0 :: Value.int .i64 0 :: Value.int .i64 0 :: Value.int .i64 0 :: Value.int .i64 0 :: Value.int .i64 0 :: Value.string ⟨#[]⟩ :: Value.string ⟨#[]⟩ :: Value.string ⟨#[]⟩ :: Value.string ⟨#[]⟩ :: Value.string ⟨#[]⟩ :: Value.string ⟨#[]⟩ :: Value.string ⟨#[]⟩ :: Value.string ⟨#[]⟩ :: Value.string ⟨#[]⟩ :: Value.string ⟨#[]⟩ :: Value.string ⟨#[]⟩ :: Value.string ⟨#[]⟩ :: Value.string ⟨#[]⟩ :: Value.string ⟨#[]⟩ :: Value.string ⟨#[]⟩ :: Value.string ⟨#[]⟩ :: Value.string ⟨#[]⟩ :: Value.string ⟨#[]⟩ :: Value.string ⟨#[]⟩ :: Value.string ⟨#[]⟩ :: Value.slice none 0 0 :: Value.slice none 0 0 :: Value.slice none 0 0 :: Value.slice none 0 0 :: [])) 66))) := BB.new w 26 _ _ rfl
    obtain ⟨c0, c1, c2, c3, c4, c5, c6, c7, c8, c9, c10, c11, c12, c13, c14, c15, c16, c17⟩ := rq_box HB.out.r
    clear h
    generalize bdc b (ptR ra rc) = CS at *
    go_enter Tryd.func25, Tryd.ntmps25
    go_wp2_with (first
      | (refine put_int rfl _ _ rfl HB.out _ _ rfl rfl (by decide) ?_; intro x' hx'; clear HB c0 c1 c2 c3 c4 c5 c6 c7 c8 c9 c10 c11 c12 c13 c14 c15 c16 c17; have HB : Hid (BB w 26 (rqc k i b false ra rc) _ x') := hx'; clear hx'; obtain ⟨c0, c1, c2, c3, c4, c5, c6, c7, c8, c9, c10, c11, c12, c13, c14, c15, c16, c17⟩ := rq_box HB.out.r)
      | (refine put_str rfl _ _ rfl HB.out _ _ rfl rfl (by decide) ?_; intro x' hx'; clear HB c0 c1 c2 c3 c4 c5 c6 c7 c8 c9 c10 c11 c12 c13 c14 c15 c16 c17; have HB : Hid (BB w 26 (rqc k i b false ra rc) _ x') := hx'; clear hx'; obtain ⟨c0, c1, c2, c3, c4, c5, c6, c7, c8, c9, c10, c11, c12, c13, c14, c15, c16, c17⟩ := rq_box HB.out.r)
      | (refine put_sl24 rfl _ _ rfl HB.out _ _ _ _ rfl rfl (by decide) ?_; intro x' hx'; clear HB c0 c1 c2 c3 c4 c5 c6 c7 c8 c9 c10 c11 c12 c13 c14 c15 c16 c17; have HB : Hid (BB w 26 (rqc k i b false ra rc) _ x') := hx'; clear hx'; obtain ⟨c0, c1, c2, c3, c4, c5, c6, c7, c8, c9, c10, c11, c12, c13, c14, c15, c16, c17⟩ := rq_box HB.out.r)
      | (refine put_sl36 rfl _ _ rfl HB.out _ _ _ _ rfl rfl (by decide) ?_; intro x' hx'; clear HB c0 c1 c2 c3 c4 c5 c6 c7 c8 c9 c10 c11 c12 c13 c14 c15 c16 c17; have HB : Hid (BB w 26 (rqc k i b false ra rc) _ x') := hx'; clear hx'; obtain ⟨c0, c1, c2, c3, c4, c5, c6, c7, c8, c9, c10, c11, c12, c13, c14, c15, c16, c17⟩ := rq_box HB.out.r)
      | (refine put_sl37 rfl _ _ rfl HB.out _ _ _ _ rfl rfl (by decide) ?_; intro x' hx'; clear HB c0 c1 c2 c3 c4 c5 c6 c7 c8 c9 c10 c11 c12 c13 c14 c15 c16 c17; have HB : Hid (BB w 26 (rqc k i b false ra rc) _ x') := hx'; clear hx'; obtain ⟨c0, c1, c2, c3, c4, c5, c6, c7, c8, c9, c10, c11, c12, c13, c14, c15, c16, c17⟩ := rq_box HB.out.r)
      | (refine put_sl38 rfl _ _ rfl HB.out _ _ _ _ rfl rfl (by decide) ?_; intro x' hx'; clear HB c0 c1 c2 c3 c4 c5 c6 c7 c8 c9 c10 c11 c12 c13 c14 c15 c16 c17; have HB : Hid (BB w 26 (rqc k i b false ra rc) _ x') := hx'; clear hx'; obtain ⟨c0, c1, c2, c3, c4, c5, c6, c7, c8, c9, c10, c11, c12, c13, c14, c15, c16, c17⟩ := rq_box HB.out.r)
      | (refine wpList_load_row rfl 66 _ rfl (w.heap.size + 1) rfl 66 (CS) (0, 0) _ (by have q := HB.out.b; rw [HQ.out] at q; exact q) Tryd.underlying66 rfl (by rw [HZ.out]; exact Tryd.info66) ?_; clear c0 c1 c2 c3 c4 c5 c6 c7 c8 c9 c10 c11 c12 c13 c14 c15 c16 c17)
      | (refine wpList_store_row rfl 66 _ _ rfl (w.heap.size + 1) (CS) rfl rfl 66 (CS) (by have q := HB.out.b; rw [HQ.out] at q; exact q) (by rw [HZ.out]; exact Tryd.info66) rfl HONE.out ?_))
    refine bodyPost_ret (results_cell_row rfl _ _ (w.heap.size + 1) 66 (CS) (0, 0) _ rfl (setRow_heap _ _ _ _ _ _ (by have q := HB.out.b; rw [HQ.out] at q; exact q)) Tryd.underlying66 rfl (by rw [HZ.out]; exact Tryd.info66)) rfl ?_
    exact ⟨rfl, below_setRow HB.out.bel (by simp) _⟩
  · have HQ : Hid ((((((((((((((((zbd).setIfInBounds 20 (.string (b 0).t)).setIfInBounds 21 (.string (b 1).t)).setIfInBounds 2 (.int .i64 (b 2).n)).setIfInBounds 3 (.int .i64 (b 3).n)).setIfInBounds 4 (.int .i64 (b 4).n)).setIfInBounds 5 (.int .i64 (b 5).n)).setIfInBounds 6 (.int .i64 (b 6).n)).setIfInBounds 7 (.int .i64 1)).setIfInBounds 8 (.int .i64 (b 8).n)).setIfInBounds 9 (.int .i64 (b 9).n)).setIfInBounds 10 (.int .i64 (b 10).n)).setIfInBounds 12 (.int .i64 (b 12).n)).setIfInBounds 13 (.int .i64 (b 13).n)).setIfInBounds 14 (.int .i64 (b 14).n)).setIfInBounds 40 (.slice ra (b 11).rs.length rc) = bdc b (ptR ra rc)) := bq_true b ra rc h
    have HZ : Hid ((bdc b (ptR ra rc)).size = 44) := bdc_size _ _
    have HONE : Hid ((bdc b (ptR ra rc)).all (·.oneCell') = true) := all_one
    have HB : Hid (BB w 26 (rqc k i b true ra rc) zbd ((w.alloc (.cells (rqc k i b true ra rc) 26)).alloc (.cells (List.toArray (Value.int .i64 0 :: Value.int .i64 0 :: Value.int .i64 0 :: Value.int .i64 0 :: Value.int .i64 0 :: Value.int .i64 0 :: Value.int .i64 0 :: Value.int .i64 0 :: Value.int .i64 0 :: Value.int .i64 0 :: Value.int .i64 0 :: Value.int .i64 0 :: Value.int .i64 0 :: Value.int .i64 0 :: Value.int .i64 0 :: Value.int .i64 0 :: Value.int .i64 0 :: Value.int .i64 0 :: Value.int .i64 0 :: Value.int .i64 0 :: Value.string ⟨#[]⟩ :: Value.string ⟨#[]⟩ :: Value.string ⟨#[]⟩ :: Value.string ⟨#[]⟩ :: Value.string ⟨#[]⟩ :: Value.string ⟨#[]⟩ :: Value.string ⟨#[]⟩ :: Value.string ⟨#[]⟩ :: Value.string ⟨#[]⟩ :: Value.string ⟨#[]⟩ :: Value.string ⟨#[]⟩ :: Value.string ⟨#[]⟩ :: Value.string ⟨#[]⟩ :: Value.string ⟨#[]⟩ :: Value.string ⟨#[]⟩ :: Value.string ⟨#[]⟩ :: Value.string ⟨#[]⟩ :: Value.string ⟨#[]⟩ :: Value.string ⟨#[]⟩ :: Value.string ⟨#[]⟩ :: Value.slice none 0 0 :: Value.slice none 0 0 :: Value.slice none 0 0 :: Value.slice none 0 0 :: [])) 66))) := BB.new w 26 _ _ rfl
    obtain ⟨c0, c1, c2, c3, c4, c5, c6, c7, c8, c9, c10, c11, c12, c13, c14, c15, c16, c17⟩ := rq_box HB.out.r
    clear h
    generalize bdc b (ptR ra rc) = CS at *
    go_enter Tryd.func25, Tryd.ntmps25
    go_wp2_with (first
      | (refine put_int rfl _ _ rfl HB.out _ _ rfl rfl (by decide) ?_; intro x' hx'; clear HB c0 c1 c2 c3 c4 c5 c6 c7 c8 c9 c10 c11 c12 c13 c14 c15 c16 c17; have HB : Hid (BB w 26 (rqc k i b true ra rc) _ x') := hx'; clear hx'; obtain ⟨c0, c1, c2, c3, c4, c5, c6, c7, c8, c9, c10, c11, c12, c13, c14, c15, c16, c17⟩ := rq_box HB.out.r)
      | (refine put_str rfl _ _ rfl HB.out _ _ rfl rfl (by decide) ?_; intro x' hx'; clear HB c0 c1 c2 c3 c4 c5 c6 c7 c8 c9 c10 c11 c12 c13 c14 c15 c16 c17; have HB : Hid (BB w 26 (rqc k i b true ra rc) _ x') := hx'; clear hx'; obtain ⟨c0, c1, c2, c3, c4, c5, c6, c7, c8, c9, c10, c11, c12, c13, c14, c15, c16, c17⟩ := rq_box HB.out.r)
      | (refine put_sl24 rfl _ _ rfl HB.out _ _ _ _ rfl rfl (by decide) ?_; intro x' hx'; clear HB c0 c1 c2 c3 c4 c5 c6 c7 c8 c9 c10 c11 c12 c13 c14 c15 c16 c17; have HB : Hid (BB w 26 (rqc k i b true ra rc) _ x') := hx'; clear hx'; obtain ⟨c0, c1, c2, c3, c4, c5, c6, c7, c8, c9, c10, c11, c12, c13, c14, c15, c16, c17⟩ := rq_box HB.out.r)
      | (refine put_sl36 rfl _ _ rfl HB.out _ _ _ _ rfl rfl (by decide) ?_; intro x' hx'; clear HB c0 c1 c2 c3 c4 c5 c6 c7 c8 c9 c10 c11 c12 c13 c14 c15 c16 c17; have HB : Hid (BB w 26 (rqc k i b true ra rc) _ x') := hx'; clear hx'; obtain ⟨c0, c1, c2, c3, c4, c5, c6, c7, c8, c9, c10, c11, c12, c13, c14, c15, c16, c17⟩ := rq_box HB.out.r)
      | (refine put_sl37 rfl _ _ rfl HB.out _ _ _ _ rfl rfl (by decide) ?_; intro x' hx'; clear HB c0 c1 c2 c3 c4 c5 c6 c7 c8 c9 c10 c11 c12 c13 c14 c15 c16 c17; have HB : Hid (BB w 26 (rqc k i b true ra rc) _ x') := hx'; clear hx'; obtain ⟨c0, c1, c2, c3, c4, c5, c6, c7, c8, c9, c10, c11, c12, c13, c14, c15, c16, c17⟩ := rq_box HB.out.r)
      | (refine put_sl38 rfl _ _ rfl HB.out _ _ _ _ rfl rfl (by decide) ?_; intro x' hx'; clear HB c0 c1 c2 c3 c4 c5 c6 c7 c8 c9 c10 c11 c12 c13 c14 c15 c16 c17; have HB : Hid (BB w 26 (rqc k i b true ra rc) _ x') := hx'; clear hx'; obtain ⟨c0, c1, c2, c3, c4, c5, c6, c7, c8, c9, c10, c11, c12, c13, c14, c15, c16, c17⟩ := rq_box HB.out.r)
      | (refine wpList_load_row rfl 66 _ rfl (w.heap.size + 1) rfl 66 (CS) (0, 0) _ (by have q := HB.out.b; rw [HQ.out] at q; exact q) Tryd.underlying66 rfl (by rw [HZ.out]; exact Tryd.info66) ?_; clear c0 c1 c2 c3 c4 c5 c6 c7 c8 c9 c10 c11 c12 c13 c14 c15 c16 c17)
      | (refine wpList_store_row rfl 66 _ _ rfl (w.heap.size + 1) (CS) rfl rfl 66 (CS) (by have q := HB.out.b; rw [HQ.out] at q; exact q) (by rw [HZ.out]; exact Tryd.info66) rfl HONE.out ?_))
    refine bodyPost_ret (results_cell_row rfl _ _ (w.heap.size + 1) 66 (CS) (0, 0) _ rfl (setRow_heap _ _ _ _ _ _ (by have q := HB.out.b; rw [HQ.out] at q; exact q)) Tryd.underlying66 rfl (by rw [HZ.out]; exact Tryd.info66)) rfl ?_
    exact ⟨rfl, below_setRow HB.out.bel (by simp) _⟩
set_option maxHeartbeats 1000000 in
set_option maxRecDepth 100000 in
theorem bodyS_any (k i d : Int) (b : Bd) (p : Pt) (h : RsB b p) (w : World) :
    Calls Tryd.prog 37 #[.agg (rsc k i d b p)] w fun e w' => e = .returned (.agg (bdc b p)) ∧ Below w.heap.size w w' := by
  have HQ : Hid (((((((zbd).setIfInBounds 12 (.int .i64 (b 12).n)).setIfInBounds 15 (.int .i64 (b 15).n)).setIfInBounds 16 (.int .i64 (b 16).n)).setIfInBounds 41 (.slice p.na (b 17).nm.length p.nc)).setIfInBounds 42 (.slice p.ca (b 18).ct.length p.cc)).setIfInBounds 43 (.slice p.ba p.bs.length p.bc) = bdc b p) := bs_all b p h
  have HZ : Hid ((bdc b p).size = 44) := bdc_size _ _
  have HONE : Hid ((bdc b p).all (·.oneCell') = true) := all_one
  have HB : Hid (BB w 40 (rsc k i d b p) zbd ((w.alloc (.cells (rsc k i d b p) 40)).alloc (.cells (List.toArray (Value.int .i64 0 :: Value.int .i64 0 :: Value.int .i64 0 :: Value.int .i64 0 :: Value.int .i64 0 :: Value.int .i64 0 :: Value.int .i64 0 :: Value.int .i64 0 :: Value.int .i64 0 :: Value.int .i64 0 :: Value.int .i64 0 :: Value.int .i64 0 :: Value.int .i64 0 :: Value.int .i64 0 :: Value.int .i64 0 :: Value.int .i64 0 :: Value.int .i64 0 :: Value.int .i64 0 :: Value.int .i64 0 :: Value.int .i64 0 :: Value.string ⟨#[]⟩ :: Value.string ⟨#[]⟩ :: Value.string ⟨#[]⟩ :: Value.string ⟨#[]⟩ :: Value.string ⟨#[]⟩ :: Value.string ⟨#[]⟩ :: Value.string ⟨#[]⟩ :: Value.string ⟨#[]⟩ :: Value.string ⟨#[]⟩ :: Value.string ⟨#[]⟩ :: Value.string ⟨#[]⟩ :: Value.string ⟨#[]⟩ :: Value.string ⟨#[]⟩ :: Value.string ⟨#[]⟩ :: Value.string ⟨#[]⟩ :: Value.string ⟨#[]⟩ :: Value.string ⟨#[]⟩ :: Value.string ⟨#[]⟩ :: Value.string ⟨#[]⟩ :: Value.string ⟨#[]⟩ :: Value.slice none 0 0 :: Value.slice none 0 0 :: Value.slice none 0 0 :: Value.slice none 0 0 :: [])) 66))) := BB.new w 40 _ _ rfl
  obtain ⟨c0, c1, c2, c3, c4, c5, c6, c7, c8, c9⟩ := rs_box HB.out.r
  clear h
  generalize bdc b p = CS at *
  go_enter Tryd.func37, Tryd.ntmps37
  go_wp2_with (first
    | (refine put_int rfl _ _ rfl HB.out _ _ rfl rfl (by decide) ?_; intro x' hx'; clear HB c0 c1 c2 c3 c4 c5 c6 c7 c8 c9; have HB : Hid (BB w 40 (rsc k i d b p) _ x') := hx'; clear hx'; obtain ⟨c0, c1, c2, c3, c4, c5, c6, c7, c8, c9⟩ := rs_box HB.out.r)
    | (refine put_str rfl _ _ rfl HB.out _ _ rfl rfl (by decide) ?_; intro x' hx'; clear HB c0 c1 c2 c3 c4 c5 c6 c7 c8 c9; have HB : Hid (BB w 40 (rsc k i d b p) _ x') := hx'; clear hx'; obtain ⟨c0, c1, c2, c3, c4, c5, c6, c7, c8, c9⟩ := rs_box HB.out.r)
    | (refine put_sl24 rfl _ _ rfl HB.out _ _ _ _ rfl rfl (by decide) ?_; intro x' hx'; clear HB c0 c1 c2 c3 c4 c5 c6 c7 c8 c9; have HB : Hid (BB w 40 (rsc k i d b p) _ x') := hx'; clear hx'; obtain ⟨c0, c1, c2, c3, c4, c5, c6, c7, c8, c9⟩ := rs_box HB.out.r)
    | (refine put_sl36 rfl _ _ rfl HB.out _ _ _ _ rfl rfl (by decide) ?_; intro x' hx'; clear HB c0 c1 c2 c3 c4 c5 c6 c7 c8 c9; have HB : Hid (BB w 40 (rsc k i d b p) _ x') := hx'; clear hx'; obtain ⟨c0, c1, c2, c3, c4, c5, c6, c7, c8, c9⟩ := rs_box HB.out.r)
    | (refine put_sl37 rfl _ _ rfl HB.out _ _ _ _ rfl rfl (by decide) ?_; intro x' hx'; clear HB c0 c1 c2 c3 c4 c5 c6 c7 c8 c9; have HB : Hid (BB w 40 (rsc k i d b p) _ x') := hx'; clear hx'; obtain ⟨c0, c1, c2, c3, c4, c5, c6, c7, c8, c9⟩ := rs_box HB.out.r)
    | (refine put_sl38 rfl _ _ rfl HB.out _ _ _ _ rfl rfl (by decide) ?_; intro x' hx'; clear HB c0 c1 c2 c3 c4 c5 c6 c7 c8 c9; have HB : Hid (BB w 40 (rsc k i d b p) _ x') := hx'; clear hx'; obtain ⟨c0, c1, c2, c3, c4, c5, c6, c7, c8, c9⟩ := rs_box HB.out.r)
    | (refine wpList_load_row rfl 66 _ rfl (w.heap.size + 1) rfl 66 (CS) (0, 0) _ (by have q := HB.out.b; rw [HQ.out] at q; exact q) Tryd.underlying66 rfl (by rw [HZ.out]; exact Tryd.info66) ?_; clear c0 c1 c2 c3 c4 c5 c6 c7 c8 c9)
    | (refine wpList_store_row rfl 66 _ _ rfl (w.heap.size + 1) (CS) rfl rfl 66 (CS) (by have q := HB.out.b; rw [HQ.out] at q; exact q) (by rw [HZ.out]; exact Tryd.info66) rfl HONE.out ?_))
  refine bodyPost_ret (results_cell_row rfl _ _ (w.heap.size + 1) 66 (CS) (0, 0) _ rfl (setRow_heap _ _ _ _ _ _ (by have q := HB.out.b; rw [HQ.out] at q; exact q)) Tryd.underlying66 rfl (by rw [HZ.out]; exact Tryd.info66)) rfl ?_
  exact ⟨rfl, below_setRow HB.out.bel (by simp) _⟩
end Go.Proofs.YtaooidckmepdeaaDoor
