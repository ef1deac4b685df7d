/- The reader: ended, a record, a batch. -/
import Derived.Test.YtaooidckmepdeaaDoorKm
import Derived.Test.YtaooidckmepdeaaDoorDq
namespace Go.Proofs.YtaooidckmepdeaaDoor
set_option linter.unusedSimpArgs false
set_option linter.unusedVariables false
open Go.RowKit
set_option maxRecDepth 100000 in
theorem ended_any (w0 w : World) (st : Ls) (h : RdR w0 w st) : Calls Tryd.prog 34 #[.pointer (some ⟨w0.heap.size, 0, none⟩)] w fun e w' => e = .returned (.bool (decide (st = some []))) ∧ w' = w := by
  obtain ⟨a, cap, hx, _⟩ := h.box
  have c0 := (box_at hx 0).1
  have c1 := (box_at hx 1).1
  simp only [List.getElem?_toArray, List.getElem?_cons_zero, List.getElem?_cons_succ] at c0 c1
  clear hx h
  cases st with
  | none =>
    simp only [Option.isNone_none] at c1
    go_enter Tryd.func34, Tryd.ntmps34
    go_wp2_with fail
    go_ret
    exact ⟨rfl, rfl⟩
  | some l =>
    simp only [Option.isNone_some, lft, Option.getD_some] at c0 c1
    cases l with
    | nil =>
      simp only [List.length_nil] at c0
      go_enter Tryd.func34, Tryd.ntmps34
      go_wp2_with fail
      go_ret
      exact ⟨rfl, rfl⟩
    | cons x r =>
      have HD : Hid (decide (some (x :: r) = some []) = false) := by show _ = _; simp
      obtain ⟨n, hn, h0⟩ : ∃ n, (x :: r).length = n ∧ n ≠ 0 := ⟨_, rfl, by simp⟩
      rw [hn] at c0
      have h0I : ((n : Int) == 0) = false := by simp; omega
      have h0J : ¬ (n : Int) = 0 := by omega
      clear hn h0
      rw [HD.out]
      go_enter Tryd.func34, Tryd.ntmps34
      go_wp2_with fail
      go_ret
      exact ⟨rfl, rfl⟩
theorem RdR.off' {w0 w : World} {st : Ls} {x i : Nat} {v : Value} (h : RdR w0 w st) (hx : w0.heap.size < x) : RdR w0 (w.setCell ⟨x, i, none⟩ v) st := by
  obtain ⟨a, cap, hb, r⟩ := h.box
  exact ⟨⟨a, cap, (heap_setCell_other w ⟨x, i, none⟩ _ v (show w0.heap.size ≠ x by omega)).trans hb, r⟩, h.bel.setCell (p := ⟨x, i, none⟩) (show w0.heap.size ≤ x by omega) _⟩
theorem one_put {w : World} {x : Nat} {cs : Array Value} {t : TypeId} (h : w.heap[x]? = some (.cells cs t (0, 0))) (i : Nat) (v : Value) : (w.setCell ⟨x, i, none⟩ v).heap[x]? = some (.cells (cs.setIfInBounds i v) t (0, 0)) := by
  rw [setCell_heap h]
theorem two_put {w : World} {x : Nat} {cs : Array Value} {t : TypeId} {i j : Nat} {u v : Value} (h : w.heap[x]? = some (.cells cs t (0, 0))) : ((w.setCell ⟨x, i, none⟩ u).setCell ⟨x, j, none⟩ v).heap[x]? = some (.cells ((cs.setIfInBounds i u).setIfInBounds j v) t (0, 0)) := one_put (one_put h i u) j v
theorem one_keep {B : Nat} {w w' : World} {x i : Nat} {v : Value} (h : KeepB B w w') (hx : w.heap.size ≤ x) : KeepB B w (w'.setCell ⟨x, i, none⟩ v) :=
  ⟨by simpa [World.setCell] using h.size, fun y hy hl => (heap_setCell_other w' ⟨x, i, none⟩ y v (show y ≠ x by omega)).trans (h.blk y hy hl)⟩
theorem two_keep {B : Nat} {w w' : World} {x i j : Nat} {u v : Value} (h : KeepB B w w') (hx : w.heap.size ≤ x) : KeepB B w ((w'.setCell ⟨x, i, none⟩ u).setCell ⟨x, j, none⟩ v) := one_keep (one_keep h hx) hx
theorem rc_keep {B x : Nat} {w w' : World} {cs : Array Value} (k : KeepB B w w') (h : w.heap[x]? = some (.cells cs 87 (0, 0))) (hx : x ≠ B) : w'.heap[x]? = some (.cells cs 87 (0, 0)) := k.box h hx
set_option maxHeartbeats 400000 in
set_option maxRecDepth 100000 in
theorem rrec_0 (w0 w : World) (st s1 s2 s3 s4 : Ls) (k v : ByteArray) (t : Int) (h : RdR w0 w st)
    (HU : Hid (∀ x, RdR w0 x st → Calls Tryd.prog 70 #[.pointer (some ⟨w0.heap.size, 0, none⟩), .int .i64 1, .int .i64 3] x (RP w0 x (.int .i64 0) s1)))
    (HK : Hid (∀ x, RdR w0 x s1 → Calls Tryd.prog 71 #[.pointer (some ⟨w0.heap.size, 0, none⟩)] x (RP w0 x (.string k) s2)))
    (HV : Hid (∀ x, RdR w0 x s1 → Calls Tryd.prog 71 #[.pointer (some ⟨w0.heap.size, 0, none⟩)] x (RP w0 x (.string v) s3)))
    (HT : Hid (∀ x, RdR w0 x s1 → Calls Tryd.prog 69 #[.pointer (some ⟨w0.heap.size, 0, none⟩)] x (RP w0 x (.int .i64 t) s4))) :
    Calls Tryd.prog 73 #[.pointer (some ⟨w0.heap.size, 0, none⟩)] w (RP w0 w (.agg #[.bool false, .string ⟨#[]⟩, .bool false, .string ⟨#[]⟩, .int .i64 t, .int .i64 0]) s4) := by
  have hz : w0.heap.size < w.heap.size := by obtain ⟨a, cap, hx, _⟩ := h.box; exact (Array.getElem?_eq_some_iff.1 hx).1
  have HNE : Hid (w.heap.size ≠ w0.heap.size) := by show _ ≠ _; omega
  have HR : Hid (RdR w0 (w.alloc (.cells #[.bool false, .string ⟨#[]⟩, .bool false, .string ⟨#[]⟩, .int .i64 0, .int .i64 0] 87)) st) := h.below (below_box _)
  have HX0 : Hid ((w.alloc (.cells #[.bool false, .string ⟨#[]⟩, .bool false, .string ⟨#[]⟩, .int .i64 0, .int .i64 0] 87)).heap[w.heap.size]? = some (.cells #[.bool false, .string ⟨#[]⟩, .bool false, .string ⟨#[]⟩, .int .i64 0, .int .i64 0] 87 (0, 0))) := heap_alloc_new w _
  have HK0 : Hid (KeepB w0.heap.size w (w.alloc (.cells #[.bool false, .string ⟨#[]⟩, .bool false, .string ⟨#[]⟩, .int .i64 0, .int .i64 0] 87))) := KeepB.of_below (below_box _)
  have b1 : bits .and .i64 0 1 = 0 := by decide
  have b2 : bits .and .i64 0 2 = 0 := by decide
  clear h
  have tok : True := trivial
  go_enter Tryd.func73, Tryd.ntmps73
  go_wp2_with (first
      | (go_at_call 70; refine (HU.out _ HR.out).mono ?_; have HY0 := HX0; have HKK0 := HK0; rintro e w1 ⟨rfl, hw1, hk1⟩; have HW1 : Hid (RdR w0 w1 s1) := hw1; have HX1 : Hid (w1.heap[w.heap.size]? = some (.cells #[.bool false, .string ⟨#[]⟩, .bool false, .string ⟨#[]⟩, .int .i64 0, .int .i64 0] 87 (0, 0))) := hk1.box HY0.out HNE.out; have HK1 : Hid (KeepB w0.heap.size w w1) := HKK0.out.trans hk1; have g10 := (box_at HX1.out 0).1; have g11 := (box_at HX1.out 1).1; have g12 := (box_at HX1.out 2).1; have g13 := (box_at HX1.out 3).1; have g14 := (box_at HX1.out 4).1; have g15 := (box_at HX1.out 5).1; have fr1 := fun j => (box_at HX1.out j).2; simp only [List.getElem?_toArray, List.getElem?_cons_zero, List.getElem?_cons_succ] at g10 g11 g12 g13 g14 g15; have HY1 : Hid (((w1.setCell ⟨w.heap.size, 0, none⟩ (.bool false)).setCell ⟨w.heap.size, 2, none⟩ (.bool false)).heap[w.heap.size]? = some (.cells #[.bool false, .string ⟨#[]⟩, .bool false, .string ⟨#[]⟩, .int .i64 0, .int .i64 0] 87 (0, 0))) := two_put HX1.out; have HS1 : Hid (RdR w0 ((w1.setCell ⟨w.heap.size, 0, none⟩ (.bool false)).setCell ⟨w.heap.size, 2, none⟩ (.bool false)) s1) := (hw1.off' hz).off' hz; have HKK1 : Hid (KeepB w0.heap.size w ((w1.setCell ⟨w.heap.size, 0, none⟩ (.bool false)).setCell ⟨w.heap.size, 2, none⟩ (.bool false))) := two_keep HK1.out (Nat.le_refl _); clear hw1 hk1 HX0 HR HK0 tok)
      | (go_at_call 69; refine (HT.out _ HS1.out).mono ?_; rintro e w2 ⟨rfl, hw2, hk2⟩; have HW2 : Hid (RdR w0 w2 s4) := hw2; have HX2 : Hid (w2.heap[w.heap.size]? = some (.cells #[.bool false, .string ⟨#[]⟩, .bool false, .string ⟨#[]⟩, .int .i64 0, .int .i64 0] 87 (0, 0))) := hk2.box HY1.out HNE.out; have HK2 : Hid (KeepB w0.heap.size w w2) := HKK1.out.trans hk2; have g20 := (box_at HX2.out 0).1; have g21 := (box_at HX2.out 1).1; have g22 := (box_at HX2.out 2).1; have g23 := (box_at HX2.out 3).1; have g24 := (box_at HX2.out 4).1; have g25 := (box_at HX2.out 5).1; have fr2 := fun j => (box_at HX2.out j).2; simp only [List.getElem?_toArray, List.getElem?_cons_zero, List.getElem?_cons_succ] at g20 g21 g22 g23 g24 g25; have HY2 : Hid ((w2.setCell ⟨w.heap.size, 4, none⟩ (.int .i64 t)).heap[w.heap.size]? = some (.cells #[.bool false, .string ⟨#[]⟩, .bool false, .string ⟨#[]⟩, .int .i64 t, .int .i64 0] 87 (0, 0))) := one_put HX2.out 4 _; have HS2 : Hid (RdR w0 (w2.setCell ⟨w.heap.size, 4, none⟩ (.int .i64 t)) s4) := hw2.off' hz; have HKK2 : Hid (KeepB w0.heap.size w (w2.setCell ⟨w.heap.size, 4, none⟩ (.int .i64 t))) := one_keep HK2.out (Nat.le_refl _); have tok9 : True := trivial; clear hw2 hk2 HS1)
      | (have _t := tok9; refine wpList_load_row rfl 87 _ rfl w.heap.size rfl 87 #[.bool false, .string ⟨#[]⟩, .bool false, .string ⟨#[]⟩, .int .i64 t, .int .i64 0] (0, 0) _ HY2.out Tryd.underlying87 rfl Tryd.info87 ?_; clear _t)
      | (have _t := tok9; refine wpList_store_row rfl 87 _ _ rfl w.heap.size #[.bool false, .string ⟨#[]⟩, .bool false, .string ⟨#[]⟩, .int .i64 t, .int .i64 0] rfl rfl 87 _ HY2.out Tryd.info87 rfl (by simp [Value.oneCell']) ?_; clear _t tok9))
  refine bodyPost_ret (results_cell_row rfl _ _ w.heap.size 87 #[.bool false, .string ⟨#[]⟩, .bool false, .string ⟨#[]⟩, .int .i64 t, .int .i64 0] (0, 0) _ rfl (setRow_heap _ _ _ _ _ _ HY2.out) Tryd.underlying87 rfl Tryd.info87) rfl ?_
  rw [setRow_self _ _ _ _ _ HY2.out]
  exact ⟨rfl, HS2.out, HKK2.out⟩
set_option maxHeartbeats 400000 in
set_option maxRecDepth 100000 in
theorem rrec_1 (w0 w : World) (st s1 s2 s3 s4 : Ls) (k v : ByteArray) (t : Int) (h : RdR w0 w st)
    (HU : Hid (∀ x, RdR w0 x st → Calls Tryd.prog 70 #[.pointer (some ⟨w0.heap.size, 0, none⟩), .int .i64 1, .int .i64 3] x (RP w0 x (.int .i64 1) s1)))
    (HK : Hid (∀ x, RdR w0 x s1 → Calls Tryd.prog 71 #[.pointer (some ⟨w0.heap.size, 0, none⟩)] x (RP w0 x (.string k) s2)))
    (HV : Hid (∀ x, RdR w0 x s2 → Calls Tryd.prog 71 #[.pointer (some ⟨w0.heap.size, 0, none⟩)] x (RP w0 x (.string v) s3)))
    (HT : Hid (∀ x, RdR w0 x s2 → Calls Tryd.prog 69 #[.pointer (some ⟨w0.heap.size, 0, none⟩)] x (RP w0 x (.int .i64 t) s4))) :
    Calls Tryd.prog 73 #[.pointer (some ⟨w0.heap.size, 0, none⟩)] w (RP w0 w (.agg #[.bool true, .string k, .bool false, .string ⟨#[]⟩, .int .i64 t, .int .i64 0]) s4) := by
  have hz : w0.heap.size < w.heap.size := by obtain ⟨a, cap, hx, _⟩ := h.box; exact (Array.getElem?_eq_some_iff.1 hx).1
  have HNE : Hid (w.heap.size ≠ w0.heap.size) := by show _ ≠ _; omega
  have HR : Hid (RdR w0 (w.alloc (.cells #[.bool false, .string ⟨#[]⟩, .bool false, .string ⟨#[]⟩, .int .i64 0, .int .i64 0] 87)) st) := h.below (below_box _)
  have HX0 : Hid ((w.alloc (.cells #[.bool false, .string ⟨#[]⟩, .bool false, .string ⟨#[]⟩, .int .i64 0, .int .i64 0] 87)).heap[w.heap.size]? = some (.cells #[.bool false, .string ⟨#[]⟩, .bool false, .string ⟨#[]⟩, .int .i64 0, .int .i64 0] 87 (0, 0))) := heap_alloc_new w _
  have HK0 : Hid (KeepB w0.heap.size w (w.alloc (.cells #[.bool false, .string ⟨#[]⟩, .bool false, .string ⟨#[]⟩, .int .i64 0, .int .i64 0] 87))) := KeepB.of_below (below_box _)
  have b1 : bits .and .i64 1 1 = 1 := by decide
  have b2 : bits .and .i64 1 2 = 0 := by decide
  clear h
  have tok : True := trivial
  go_enter Tryd.func73, Tryd.ntmps73
  go_wp2_with (first
      | (go_at_call 70; refine (HU.out _ HR.out).mono ?_; have HY0 := HX0; have HKK0 := HK0; rintro e w1 ⟨rfl, hw1, hk1⟩; have HW1 : Hid (RdR w0 w1 s1) := hw1; have HX1 : Hid (w1.heap[w.heap.size]? = some (.cells #[.bool false, .string ⟨#[]⟩, .bool false, .string ⟨#[]⟩, .int .i64 0, .int .i64 0] 87 (0, 0))) := hk1.box HY0.out HNE.out; have HK1 : Hid (KeepB w0.heap.size w w1) := HKK0.out.trans hk1; have g10 := (box_at HX1.out 0).1; have g11 := (box_at HX1.out 1).1; have g12 := (box_at HX1.out 2).1; have g13 := (box_at HX1.out 3).1; have g14 := (box_at HX1.out 4).1; have g15 := (box_at HX1.out 5).1; have fr1 := fun j => (box_at HX1.out j).2; simp only [List.getElem?_toArray, List.getElem?_cons_zero, List.getElem?_cons_succ] at g10 g11 g12 g13 g14 g15; have HY1 : Hid (((w1.setCell ⟨w.heap.size, 0, none⟩ (.bool true)).setCell ⟨w.heap.size, 2, none⟩ (.bool false)).heap[w.heap.size]? = some (.cells #[.bool true, .string ⟨#[]⟩, .bool false, .string ⟨#[]⟩, .int .i64 0, .int .i64 0] 87 (0, 0))) := two_put HX1.out; have HS1 : Hid (RdR w0 ((w1.setCell ⟨w.heap.size, 0, none⟩ (.bool true)).setCell ⟨w.heap.size, 2, none⟩ (.bool false)) s1) := (hw1.off' hz).off' hz; have HKK1 : Hid (KeepB w0.heap.size w ((w1.setCell ⟨w.heap.size, 0, none⟩ (.bool true)).setCell ⟨w.heap.size, 2, none⟩ (.bool false))) := two_keep HK1.out (Nat.le_refl _); clear hw1 hk1 HX0 HR HK0 tok)
      | (have _t := HS1; go_at_call 71; refine (HK.out _ HS1.out).mono ?_; rintro e w2 ⟨rfl, hw2, hk2⟩; have HW2 : Hid (RdR w0 w2 s2) := hw2; have HX2 : Hid (w2.heap[w.heap.size]? = some (.cells #[.bool true, .string ⟨#[]⟩, .bool false, .string ⟨#[]⟩, .int .i64 0, .int .i64 0] 87 (0, 0))) := hk2.box HY1.out HNE.out; have HK2 : Hid (KeepB w0.heap.size w w2) := HKK1.out.trans hk2; have g20 := (box_at HX2.out 0).1; have g21 := (box_at HX2.out 1).1; have g22 := (box_at HX2.out 2).1; have g23 := (box_at HX2.out 3).1; have g24 := (box_at HX2.out 4).1; have g25 := (box_at HX2.out 5).1; have fr2 := fun j => (box_at HX2.out j).2; simp only [List.getElem?_toArray, List.getElem?_cons_zero, List.getElem?_cons_succ] at g20 g21 g22 g23 g24 g25; have HY2 : Hid ((w2.setCell ⟨w.heap.size, 1, none⟩ (.string k)).heap[w.heap.size]? = some (.cells #[.bool true, .string k, .bool false, .string ⟨#[]⟩, .int .i64 0, .int .i64 0] 87 (0, 0))) := one_put HX2.out 1 _; have HS2 : Hid (RdR w0 (w2.setCell ⟨w.heap.size, 1, none⟩ (.string k)) s2) := hw2.off' hz; have HKK2 : Hid (KeepB w0.heap.size w (w2.setCell ⟨w.heap.size, 1, none⟩ (.string k))) := one_keep HK2.out (Nat.le_refl _); clear hw2 hk2 HS1 _t)
      | (go_at_call 69; refine (HT.out _ HS2.out).mono ?_; rintro e w3 ⟨rfl, hw3, hk3⟩; have HW3 : Hid (RdR w0 w3 s4) := hw3; have HX3 : Hid (w3.heap[w.heap.size]? = some (.cells #[.bool true, .string k, .bool false, .string ⟨#[]⟩, .int .i64 0, .int .i64 0] 87 (0, 0))) := hk3.box HY2.out HNE.out; have HK3 : Hid (KeepB w0.heap.size w w3) := HKK2.out.trans hk3; have g30 := (box_at HX3.out 0).1; have g31 := (box_at HX3.out 1).1; have g32 := (box_at HX3.out 2).1; have g33 := (box_at HX3.out 3).1; have g34 := (box_at HX3.out 4).1; have g35 := (box_at HX3.out 5).1; have fr3 := fun j => (box_at HX3.out j).2; simp only [List.getElem?_toArray, List.getElem?_cons_zero, List.getElem?_cons_succ] at g30 g31 g32 g33 g34 g35; have HY3 : Hid ((w3.setCell ⟨w.heap.size, 4, none⟩ (.int .i64 t)).heap[w.heap.size]? = some (.cells #[.bool true, .string k, .bool false, .string ⟨#[]⟩, .int .i64 t, .int .i64 0] 87 (0, 0))) := one_put HX3.out 4 _; have HS3 : Hid (RdR w0 (w3.setCell ⟨w.heap.size, 4, none⟩ (.int .i64 t)) s4) := hw3.off' hz; have HKK3 : Hid (KeepB w0.heap.size w (w3.setCell ⟨w.heap.size, 4, none⟩ (.int .i64 t))) := one_keep HK3.out (Nat.le_refl _); have tok9 : True := trivial; clear hw3 hk3 HS2)
      | (have _t := tok9; refine wpList_load_row rfl 87 _ rfl w.heap.size rfl 87 #[.bool true, .string k, .bool false, .string ⟨#[]⟩, .int .i64 t, .int .i64 0] (0, 0) _ HY3.out Tryd.underlying87 rfl Tryd.info87 ?_; clear _t)
      | (have _t := tok9; refine wpList_store_row rfl 87 _ _ rfl w.heap.size #[.bool true, .string k, .bool false, .string ⟨#[]⟩, .int .i64 t, .int .i64 0] rfl rfl 87 _ HY3.out Tryd.info87 rfl (by simp [Value.oneCell']) ?_; clear _t tok9))
  refine bodyPost_ret (results_cell_row rfl _ _ w.heap.size 87 #[.bool true, .string k, .bool false, .string ⟨#[]⟩, .int .i64 t, .int .i64 0] (0, 0) _ rfl (setRow_heap _ _ _ _ _ _ HY3.out) Tryd.underlying87 rfl Tryd.info87) rfl ?_
  rw [setRow_self _ _ _ _ _ HY3.out]
  exact ⟨rfl, HS3.out, HKK3.out⟩
set_option maxHeartbeats 400000 in
set_option maxRecDepth 100000 in
theorem rrec_2 (w0 w : World) (st s1 s2 s3 s4 : Ls) (k v : ByteArray) (t : Int) (h : RdR w0 w st)
    (HU : Hid (∀ x, RdR w0 x st → Calls Tryd.prog 70 #[.pointer (some ⟨w0.heap.size, 0, none⟩), .int .i64 1, .int .i64 3] x (RP w0 x (.int .i64 2) s1)))
    (HK : Hid (∀ x, RdR w0 x s1 → Calls Tryd.prog 71 #[.pointer (some ⟨w0.heap.size, 0, none⟩)] x (RP w0 x (.string k) s2)))
    (HV : Hid (∀ x, RdR w0 x s1 → Calls Tryd.prog 71 #[.pointer (some ⟨w0.heap.size, 0, none⟩)] x (RP w0 x (.string v) s3)))
    (HT : Hid (∀ x, RdR w0 x s3 → Calls Tryd.prog 69 #[.pointer (some ⟨w0.heap.size, 0, none⟩)] x (RP w0 x (.int .i64 t) s4))) :
    Calls Tryd.prog 73 #[.pointer (some ⟨w0.heap.size, 0, none⟩)] w (RP w0 w (.agg #[.bool false, .string ⟨#[]⟩, .bool true, .string v, .int .i64 t, .int .i64 0]) s4) := by
  have hz : w0.heap.size < w.heap.size := by obtain ⟨a, cap, hx, _⟩ := h.box; exact (Array.getElem?_eq_some_iff.1 hx).1
  have HNE : Hid (w.heap.size ≠ w0.heap.size) := by show _ ≠ _; omega
  have HR : Hid (RdR w0 (w.alloc (.cells #[.bool false, .string ⟨#[]⟩, .bool false, .string ⟨#[]⟩, .int .i64 0, .int .i64 0] 87)) st) := h.below (below_box _)
  have HX0 : Hid ((w.alloc (.cells #[.bool false, .string ⟨#[]⟩, .bool false, .string ⟨#[]⟩, .int .i64 0, .int .i64 0] 87)).heap[w.heap.size]? = some (.cells #[.bool false, .string ⟨#[]⟩, .bool false, .string ⟨#[]⟩, .int .i64 0, .int .i64 0] 87 (0, 0))) := heap_alloc_new w _
  have HK0 : Hid (KeepB w0.heap.size w (w.alloc (.cells #[.bool false, .string ⟨#[]⟩, .bool false, .string ⟨#[]⟩, .int .i64 0, .int .i64 0] 87))) := KeepB.of_below (below_box _)
  have b1 : bits .and .i64 2 1 = 0 := by decide
  have b2 : bits .and .i64 2 2 = 2 := by decide
  clear h
  have tok : True := trivial
  go_enter Tryd.func73, Tryd.ntmps73
  go_wp2_with (first
      | (go_at_call 70; refine (HU.out _ HR.out).mono ?_; have HY0 := HX0; have HKK0 := HK0; rintro e w1 ⟨rfl, hw1, hk1⟩; have HW1 : Hid (RdR w0 w1 s1) := hw1; have HX1 : Hid (w1.heap[w.heap.size]? = some (.cells #[.bool false, .string ⟨#[]⟩, .bool false, .string ⟨#[]⟩, .int .i64 0, .int .i64 0] 87 (0, 0))) := hk1.box HY0.out HNE.out; have HK1 : Hid (KeepB w0.heap.size w w1) := HKK0.out.trans hk1; have g10 := (box_at HX1.out 0).1; have g11 := (box_at HX1.out 1).1; have g12 := (box_at HX1.out 2).1; have g13 := (box_at HX1.out 3).1; have g14 := (box_at HX1.out 4).1; have g15 := (box_at HX1.out 5).1; have fr1 := fun j => (box_at HX1.out j).2; simp only [List.getElem?_toArray, List.getElem?_cons_zero, List.getElem?_cons_succ] at g10 g11 g12 g13 g14 g15; have HY1 : Hid (((w1.setCell ⟨w.heap.size, 0, none⟩ (.bool false)).setCell ⟨w.heap.size, 2, none⟩ (.bool true)).heap[w.heap.size]? = some (.cells #[.bool false, .string ⟨#[]⟩, .bool true, .string ⟨#[]⟩, .int .i64 0, .int .i64 0] 87 (0, 0))) := two_put HX1.out; have HS1 : Hid (RdR w0 ((w1.setCell ⟨w.heap.size, 0, none⟩ (.bool false)).setCell ⟨w.heap.size, 2, none⟩ (.bool true)) s1) := (hw1.off' hz).off' hz; have HKK1 : Hid (KeepB w0.heap.size w ((w1.setCell ⟨w.heap.size, 0, none⟩ (.bool false)).setCell ⟨w.heap.size, 2, none⟩ (.bool true))) := two_keep HK1.out (Nat.le_refl _); clear hw1 hk1 HX0 HR HK0 tok)
      | (have _t := HS1; go_at_call 71; refine (HV.out _ HS1.out).mono ?_; rintro e w2 ⟨rfl, hw2, hk2⟩; have HW2 : Hid (RdR w0 w2 s3) := hw2; have HX2 : Hid (w2.heap[w.heap.size]? = some (.cells #[.bool false, .string ⟨#[]⟩, .bool true, .string ⟨#[]⟩, .int .i64 0, .int .i64 0] 87 (0, 0))) := hk2.box HY1.out HNE.out; have HK2 : Hid (KeepB w0.heap.size w w2) := HKK1.out.trans hk2; have g20 := (box_at HX2.out 0).1; have g21 := (box_at HX2.out 1).1; have g22 := (box_at HX2.out 2).1; have g23 := (box_at HX2.out 3).1; have g24 := (box_at HX2.out 4).1; have g25 := (box_at HX2.out 5).1; have fr2 := fun j => (box_at HX2.out j).2; simp only [List.getElem?_toArray, List.getElem?_cons_zero, List.getElem?_cons_succ] at g20 g21 g22 g23 g24 g25; have HY2 : Hid ((w2.setCell ⟨w.heap.size, 3, none⟩ (.string v)).heap[w.heap.size]? = some (.cells #[.bool false, .string ⟨#[]⟩, .bool true, .string v, .int .i64 0, .int .i64 0] 87 (0, 0))) := one_put HX2.out 3 _; have HS2 : Hid (RdR w0 (w2.setCell ⟨w.heap.size, 3, none⟩ (.string v)) s3) := hw2.off' hz; have HKK2 : Hid (KeepB w0.heap.size w (w2.setCell ⟨w.heap.size, 3, none⟩ (.string v))) := one_keep HK2.out (Nat.le_refl _); clear hw2 hk2 HS1 _t)
      | (go_at_call 69; refine (HT.out _ HS2.out).mono ?_; rintro e w3 ⟨rfl, hw3, hk3⟩; have HW3 : Hid (RdR w0 w3 s4) := hw3; have HX3 : Hid (w3.heap[w.heap.size]? = some (.cells #[.bool false, .string ⟨#[]⟩, .bool true, .string v, .int .i64 0, .int .i64 0] 87 (0, 0))) := hk3.box HY2.out HNE.out; have HK3 : Hid (KeepB w0.heap.size w w3) := HKK2.out.trans hk3; have g30 := (box_at HX3.out 0).1; have g31 := (box_at HX3.out 1).1; have g32 := (box_at HX3.out 2).1; have g33 := (box_at HX3.out 3).1; have g34 := (box_at HX3.out 4).1; have g35 := (box_at HX3.out 5).1; have fr3 := fun j => (box_at HX3.out j).2; simp only [List.getElem?_toArray, List.getElem?_cons_zero, List.getElem?_cons_succ] at g30 g31 g32 g33 g34 g35; have HY3 : Hid ((w3.setCell ⟨w.heap.size, 4, none⟩ (.int .i64 t)).heap[w.heap.size]? = some (.cells #[.bool false, .string ⟨#[]⟩, .bool true, .string v, .int .i64 t, .int .i64 0] 87 (0, 0))) := one_put HX3.out 4 _; have HS3 : Hid (RdR w0 (w3.setCell ⟨w.heap.size, 4, none⟩ (.int .i64 t)) s4) := hw3.off' hz; have HKK3 : Hid (KeepB w0.heap.size w (w3.setCell ⟨w.heap.size, 4, none⟩ (.int .i64 t))) := one_keep HK3.out (Nat.le_refl _); have tok9 : True := trivial; clear hw3 hk3 HS2)
      | (have _t := tok9; refine wpList_load_row rfl 87 _ rfl w.heap.size rfl 87 #[.bool false, .string ⟨#[]⟩, .bool true, .string v, .int .i64 t, .int .i64 0] (0, 0) _ HY3.out Tryd.underlying87 rfl Tryd.info87 ?_; clear _t)
      | (have _t := tok9; refine wpList_store_row rfl 87 _ _ rfl w.heap.size #[.bool false, .string ⟨#[]⟩, .bool true, .string v, .int .i64 t, .int .i64 0] rfl rfl 87 _ HY3.out Tryd.info87 rfl (by simp [Value.oneCell']) ?_; clear _t tok9))
  refine bodyPost_ret (results_cell_row rfl _ _ w.heap.size 87 #[.bool false, .string ⟨#[]⟩, .bool true, .string v, .int .i64 t, .int .i64 0] (0, 0) _ rfl (setRow_heap _ _ _ _ _ _ HY3.out) Tryd.underlying87 rfl Tryd.info87) rfl ?_
  rw [setRow_self _ _ _ _ _ HY3.out]
  exact ⟨rfl, HS3.out, HKK3.out⟩
set_option maxHeartbeats 400000 in
set_option maxRecDepth 100000 in
theorem rrec_3 (w0 w : World) (st s1 s2 s3 s4 : Ls) (k v : ByteArray) (t : Int) (h : RdR w0 w st)
    (HU : Hid (∀ x, RdR w0 x st → Calls Tryd.prog 70 #[.pointer (some ⟨w0.heap.size, 0, none⟩), .int .i64 1, .int .i64 3] x (RP w0 x (.int .i64 3) s1)))
    (HK : Hid (∀ x, RdR w0 x s1 → Calls Tryd.prog 71 #[.pointer (some ⟨w0.heap.size, 0, none⟩)] x (RP w0 x (.string k) s2)))
    (HV : Hid (∀ x, RdR w0 x s2 → Calls Tryd.prog 71 #[.pointer (some ⟨w0.heap.size, 0, none⟩)] x (RP w0 x (.string v) s3)))
    (HT : Hid (∀ x, RdR w0 x s3 → Calls Tryd.prog 69 #[.pointer (some ⟨w0.heap.size, 0, none⟩)] x (RP w0 x (.int .i64 t) s4))) :
    Calls Tryd.prog 73 #[.pointer (some ⟨w0.heap.size, 0, none⟩)] w (RP w0 w (.agg #[.bool true, .string k, .bool true, .string v, .int .i64 t, .int .i64 0]) s4) := by
  have hz : w0.heap.size < w.heap.size := by obtain ⟨a, cap, hx, _⟩ := h.box; exact (Array.getElem?_eq_some_iff.1 hx).1
  have HNE : Hid (w.heap.size ≠ w0.heap.size) := by show _ ≠ _; omega
  have HR : Hid (RdR w0 (w.alloc (.cells #[.bool false, .string ⟨#[]⟩, .bool false, .string ⟨#[]⟩, .int .i64 0, .int .i64 0] 87)) st) := h.below (below_box _)
  have HX0 : Hid ((w.alloc (.cells #[.bool false, .string ⟨#[]⟩, .bool false, .string ⟨#[]⟩, .int .i64 0, .int .i64 0] 87)).heap[w.heap.size]? = some (.cells #[.bool false, .string ⟨#[]⟩, .bool false, .string ⟨#[]⟩, .int .i64 0, .int .i64 0] 87 (0, 0))) := heap_alloc_new w _
  have HK0 : Hid (KeepB w0.heap.size w (w.alloc (.cells #[.bool false, .string ⟨#[]⟩, .bool false, .string ⟨#[]⟩, .int .i64 0, .int .i64 0] 87))) := KeepB.of_below (below_box _)
  have b1 : bits .and .i64 3 1 = 1 := by decide
  have b2 : bits .and .i64 3 2 = 2 := by decide
  clear h
  have tok : True := trivial
  go_enter Tryd.func73, Tryd.ntmps73
  go_wp2_with (first
      | (go_at_call 70; refine (HU.out _ HR.out).mono ?_; have HY0 := HX0; have HKK0 := HK0; rintro e w1 ⟨rfl, hw1, hk1⟩; have HW1 : Hid (RdR w0 w1 s1) := hw1; have HX1 : Hid (w1.heap[w.heap.size]? = some (.cells #[.bool false, .string ⟨#[]⟩, .bool false, .string ⟨#[]⟩, .int .i64 0, .int .i64 0] 87 (0, 0))) := hk1.box HY0.out HNE.out; have HK1 : Hid (KeepB w0.heap.size w w1) := HKK0.out.trans hk1; have g10 := (box_at HX1.out 0).1; have g11 := (box_at HX1.out 1).1; have g12 := (box_at HX1.out 2).1; have g13 := (box_at HX1.out 3).1; have g14 := (box_at HX1.out 4).1; have g15 := (box_at HX1.out 5).1; have fr1 := fun j => (box_at HX1.out j).2; simp only [List.getElem?_toArray, List.getElem?_cons_zero, List.getElem?_cons_succ] at g10 g11 g12 g13 g14 g15; have HY1 : Hid (((w1.setCell ⟨w.heap.size, 0, none⟩ (.bool true)).setCell ⟨w.heap.size, 2, none⟩ (.bool true)).heap[w.heap.size]? = some (.cells #[.bool true, .string ⟨#[]⟩, .bool true, .string ⟨#[]⟩, .int .i64 0, .int .i64 0] 87 (0, 0))) := two_put HX1.out; have HS1 : Hid (RdR w0 ((w1.setCell ⟨w.heap.size, 0, none⟩ (.bool true)).setCell ⟨w.heap.size, 2, none⟩ (.bool true)) s1) := (hw1.off' hz).off' hz; have HKK1 : Hid (KeepB w0.heap.size w ((w1.setCell ⟨w.heap.size, 0, none⟩ (.bool true)).setCell ⟨w.heap.size, 2, none⟩ (.bool true))) := two_keep HK1.out (Nat.le_refl _); clear hw1 hk1 HX0 HR HK0 tok)
      | (have _t := HS1; go_at_call 71; refine (HK.out _ HS1.out).mono ?_; rintro e w2 ⟨rfl, hw2, hk2⟩; have HW2 : Hid (RdR w0 w2 s2) := hw2; have HX2 : Hid (w2.heap[w.heap.size]? = some (.cells #[.bool true, .string ⟨#[]⟩, .bool true, .string ⟨#[]⟩, .int .i64 0, .int .i64 0] 87 (0, 0))) := hk2.box HY1.out HNE.out; have HK2 : Hid (KeepB w0.heap.size w w2) := HKK1.out.trans hk2; have g20 := (box_at HX2.out 0).1; have g21 := (box_at HX2.out 1).1; have g22 := (box_at HX2.out 2).1; have g23 := (box_at HX2.out 3).1; have g24 := (box_at HX2.out 4).1; have g25 := (box_at HX2.out 5).1; have fr2 := fun j => (box_at HX2.out j).2; simp only [List.getElem?_toArray, List.getElem?_cons_zero, List.getElem?_cons_succ] at g20 g21 g22 g23 g24 g25; have HY2 : Hid ((w2.setCell ⟨w.heap.size, 1, none⟩ (.string k)).heap[w.heap.size]? = some (.cells #[.bool true, .string k, .bool true, .string ⟨#[]⟩, .int .i64 0, .int .i64 0] 87 (0, 0))) := one_put HX2.out 1 _; have HS2 : Hid (RdR w0 (w2.setCell ⟨w.heap.size, 1, none⟩ (.string k)) s2) := hw2.off' hz; have HKK2 : Hid (KeepB w0.heap.size w (w2.setCell ⟨w.heap.size, 1, none⟩ (.string k))) := one_keep HK2.out (Nat.le_refl _); clear hw2 hk2 HS1 _t)
      | (have _t := HS2; go_at_call 71; refine (HV.out _ HS2.out).mono ?_; rintro e w3 ⟨rfl, hw3, hk3⟩; have HW3 : Hid (RdR w0 w3 s3) := hw3; have HX3 : Hid (w3.heap[w.heap.size]? = some (.cells #[.bool true, .string k, .bool true, .string ⟨#[]⟩, .int .i64 0, .int .i64 0] 87 (0, 0))) := hk3.box HY2.out HNE.out; have HK3 : Hid (KeepB w0.heap.size w w3) := HKK2.out.trans hk3; have g30 := (box_at HX3.out 0).1; have g31 := (box_at HX3.out 1).1; have g32 := (box_at HX3.out 2).1; have g33 := (box_at HX3.out 3).1; have g34 := (box_at HX3.out 4).1; have g35 := (box_at HX3.out 5).1; have fr3 := fun j => (box_at HX3.out j).2; simp only [List.getElem?_toArray, List.getElem?_cons_zero, List.getElem?_cons_succ] at g30 g31 g32 g33 g34 g35; have HY3 : Hid ((w3.setCell ⟨w.heap.size, 3, none⟩ (.string v)).heap[w.heap.size]? = some (.cells #[.bool true, .string k, .bool true, .string v, .int .i64 0, .int .i64 0] 87 (0, 0))) := one_put HX3.out 3 _; have HS3 : Hid (RdR w0 (w3.setCell ⟨w.heap.size, 3, none⟩ (.string v)) s3) := hw3.off' hz; have HKK3 : Hid (KeepB w0.heap.size w (w3.setCell ⟨w.heap.size, 3, none⟩ (.string v))) := one_keep HK3.out (Nat.le_refl _); clear hw3 hk3 HS2 _t)
      | (go_at_call 69; refine (HT.out _ HS3.out).mono ?_; rintro e w4 ⟨rfl, hw4, hk4⟩; have HW4 : Hid (RdR w0 w4 s4) := hw4; have HX4 : Hid (w4.heap[w.heap.size]? = some (.cells #[.bool true, .string k, .bool true, .string v, .int .i64 0, .int .i64 0] 87 (0, 0))) := hk4.box HY3.out HNE.out; have HK4 : Hid (KeepB w0.heap.size w w4) := HKK3.out.trans hk4; have g40 := (box_at HX4.out 0).1; have g41 := (box_at HX4.out 1).1; have g42 := (box_at HX4.out 2).1; have g43 := (box_at HX4.out 3).1; have g44 := (box_at HX4.out 4).1; have g45 := (box_at HX4.out 5).1; have fr4 := fun j => (box_at HX4.out j).2; simp only [List.getElem?_toArray, List.getElem?_cons_zero, List.getElem?_cons_succ] at g40 g41 g42 g43 g44 g45; have HY4 : Hid ((w4.setCell ⟨w.heap.size, 4, none⟩ (.int .i64 t)).heap[w.heap.size]? = some (.cells #[.bool true, .string k, .bool true, .string v, .int .i64 t, .int .i64 0] 87 (0, 0))) := one_put HX4.out 4 _; have HS4 : Hid (RdR w0 (w4.setCell ⟨w.heap.size, 4, none⟩ (.int .i64 t)) s4) := hw4.off' hz; have HKK4 : Hid (KeepB w0.heap.size w (w4.setCell ⟨w.heap.size, 4, none⟩ (.int .i64 t))) := one_keep HK4.out (Nat.le_refl _); have tok9 : True := trivial; clear hw4 hk4 HS3)
      | (have _t := tok9; refine wpList_load_row rfl 87 _ rfl w.heap.size rfl 87 #[.bool true, .string k, .bool true, .string v, .int .i64 t, .int .i64 0] (0, 0) _ HY4.out Tryd.underlying87 rfl Tryd.info87 ?_; clear _t)
      | (have _t := tok9; refine wpList_store_row rfl 87 _ _ rfl w.heap.size #[.bool true, .string k, .bool true, .string v, .int .i64 t, .int .i64 0] rfl rfl 87 _ HY4.out Tryd.info87 rfl (by simp [Value.oneCell']) ?_; clear _t tok9))
  refine bodyPost_ret (results_cell_row rfl _ _ w.heap.size 87 #[.bool true, .string k, .bool true, .string v, .int .i64 t, .int .i64 0] (0, 0) _ rfl (setRow_heap _ _ _ _ _ _ HY4.out) Tryd.underlying87 rfl Tryd.info87) rfl ?_
  rw [setRow_self _ _ _ _ _ HY4.out]
  exact ⟨rfl, HS4.out, HKK4.out⟩
end Go.Proofs.YtaooidckmepdeaaDoor
