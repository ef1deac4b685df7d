/- The writer: a record, a batch. -/
import Derived.Test.YtaooidckmepdeaaDoorKb
import Derived.Test.YtaooidckmepdeaaDoorBe
namespace Go.Proofs.YtaooidckmepdeaaDoor
set_option linter.unusedSimpArgs false
set_option linter.unusedVariables false
open Go.RowKit
set_option maxRecDepth 100000 in
theorem markOf_any (r : Rc) (w : World) : Calls Tryd.prog 82 #[.agg r.cells] w fun e w' => e = .returned (.int .i64 ((headB r.hk r.hv : Nat) : Int)) ∧ Below w.heap.size w w' := by
  obtain ⟨hk, k, hv, v, t, o⟩ := r
  simp only [Rc.cells]
  have e1 : bits .or .i64 0 1 = 1 := by decide
  have e2 : bits .or .i64 0 2 = 2 := by decide
  have e3 : bits .or .i64 1 2 = 3 := by decide
  cases hk <;> cases hv
  all_goals
    go_enter Tryd.func82, Tryd.ntmps82
    go_wp2_with fail
    go_ret
    refine ⟨retI ?_, below_box _⟩
    first | rfl | (simp only [e1, e2, e3]; rfl)
/-- A box that nothing of the writer touches. -/
theorem KeepT.box {B x : Nat} {w w' : World} {cs : Array Value} {t : TypeId} (k : KeepT B w w') (h : w.heap[x]? = some (.cells cs t (0, 0))) (hx : x ≠ B) (ht : t ≠ 5) : w'.heap[x]? = some (.cells cs t (0, 0)) := k.blk x _ hx h (notB ht)
theorem rc_box {w : World} {x : Nat} {r : Rc} (h : w.heap[x]? = some (.cells r.cells 87 (0, 0))) :
    w.cell? ⟨x, 0, none⟩ = some (.bool r.hk) ∧ w.cell? ⟨x, 1, none⟩ = some (.string r.k) ∧ w.cell? ⟨x, 2, none⟩ = some (.bool r.hv) ∧ w.cell? ⟨x, 3, none⟩ = some (.string r.v) ∧ w.cell? ⟨x, 4, none⟩ = some (.int .i64 r.t) ∧ w.cell? ⟨x, 5, none⟩ = some (.int .i64 r.o) ∧ x < w.heap.size :=
  ⟨(box_at h 0).1, (box_at h 1).1, (box_at h 2).1, (box_at h 3).1, (box_at h 4).1, (box_at h 5).1, (Array.getElem?_eq_some_iff.1 h).1⟩
/-- What stands once the record was looked at. -/
def stR (st : Ls) (r : Rc) : Ls := if okR r = true then st else none
theorem stR_eq (st : Ls) (r : Rc) : oa (oa (oa (oa (stR st r) (some (lay 1 (headB r.hk r.hv)))) (eIf r.hk r.k)) (eIf r.hv r.v)) (some (eInt r.t)) = oa st (eRec r) := by
  unfold stR eRec
  split
  · simp only [oa_assoc]
  · simp only [oa_none, none_oa]
theorem eNat_head (hk hv : Bool) : eNat 1 ((headB hk hv : Nat) : Int) = some (lay 1 (headB hk hv)) := by
  have := (head_bits hk hv).2.2
  unfold eNat
  rw [if_pos ⟨by omega, by omega⟩, Int.toNat_natCast]
theorem str_nil (s : ByteArray) : s.toList.isEmpty = decide (s.size = 0) := by
  have h : s.toList = s.data.toList := ByteArray.toList_eq s
  rw [h]
  obtain ⟨⟨l⟩⟩ := s
  cases l <;> simp [ByteArray.size]
/-- The record, laid. -/
theorem wrec_st (st : Ls) (r : Rc) (h : okR r = true) : oa st (eRec r) = oa (oa (oa (oa st (some (lay 1 (headB r.hk r.hv)))) (eIf r.hk r.k)) (eIf r.hv r.v)) (some (eInt r.t)) := by
  rw [← stR_eq]; unfold stR; rw [if_pos h]
theorem wrec_no (st : Ls) (r : Rc) (h : okR r = false) : oa st (eRec r) = none := by
  unfold eRec; rw [h]; simp [oa_none]
set_option maxHeartbeats 400000 in
set_option maxRecDepth 100000 in
theorem wrec_tt (w0 w : World) (st s0 s1 s2 s3 s4 : Ls) (N1 N2 N3 N4 N : Nat) (M : Int) (k v : ByteArray) (t o : Int) (bad cc : Bool) (hbad : bad = st.isNone) (hcc : cc = s0.isNone) (hw : WrS w0 w st N)
    (hc : cc = (bad || !(okR ⟨true, k, true, v, t, o⟩))) (hst : ∀ L, s0 = some L → st = some L) (N5 : Nat)
    (HM : Hid (∀ x, Calls Tryd.prog 82 #[.agg #[.bool true, .string k, .bool true, .string v, .int .i64 t, .int .i64 o]] x fun e w' => e = .returned (.int .i64 M) ∧ Below x.heap.size x w'))
    (HN : Hid (∀ x, WrS w0 x s0 N → Calls Tryd.prog 23 #[.pointer (some ⟨w0.heap.size, 0, none⟩), .int .i64 1, .int .i64 M] x (WP w0 x s1 N1)))
    (HK : Hid (∀ x, WrS w0 x s1 N1 → Calls Tryd.prog 57 #[.pointer (some ⟨w0.heap.size, 0, none⟩), .string k] x (WP w0 x s2 N2)))
    (HV : Hid (∀ x, WrS w0 x s2 N2 → Calls Tryd.prog 57 #[.pointer (some ⟨w0.heap.size, 0, none⟩), .string v] x (WP w0 x s3 N3)))
    (HT : Hid (∀ x, WrS w0 x s3 N3 → Calls Tryd.prog 56 #[.pointer (some ⟨w0.heap.size, 0, none⟩), .int .i64 t] x (WP w0 x s4 N4))) :
    Calls Tryd.prog 59 #[.pointer (some ⟨w0.heap.size, 0, none⟩), .agg #[.bool true, .string k, .bool true, .string v, .int .i64 t, .int .i64 o]] w (WP w0 w s4 N4) := by
  obtain ⟨a, m, c, c0, c1, f0, f1, hz⟩ := hw.open
  rw [← hbad] at c1
  have HNE : Hid (w.heap.size ≠ w0.heap.size) := by show _ ≠ _; omega
  have hne1 : ¬ w0.heap.size = w.heap.size := by omega
  have hne2 : ¬ w.heap.size = w0.heap.size := by omega
  have HS0 : Hid _ := hw.setBad s0 cc hcc hst
  have hsz : (w.setCell ⟨w0.heap.size, 1, none⟩ (.bool cc)).heap.size = w.heap.size := by simp [World.setCell]
  have HS : Hid (WrS w0 ((w.setCell ⟨w0.heap.size, 1, none⟩ (.bool cc)).alloc (.cells #[.bool true, .string k, .bool true, .string v, .int .i64 t, .int .i64 o] 87)) s0 N ∧ KeepT w0.heap.size w ((w.setCell ⟨w0.heap.size, 1, none⟩ (.bool cc)).alloc (.cells #[.bool true, .string k, .bool true, .string v, .int .i64 t, .int .i64 o] 87))) := ⟨HS0.out.1.below (below_box _), HS0.out.2.trans (KeepT.of_below (below_box _))⟩
  have HX : Hid (((w.setCell ⟨w0.heap.size, 1, none⟩ (.bool cc)).alloc (.cells #[.bool true, .string k, .bool true, .string v, .int .i64 t, .int .i64 o] 87)).heap[w.heap.size]? = some (.cells #[.bool true, .string k, .bool true, .string v, .int .i64 t, .int .i64 o] 87 (0, 0))) := by
    have q := heap_alloc_new (w.setCell ⟨w0.heap.size, 1, none⟩ (.bool cc)) (.cells #[.bool true, .string k, .bool true, .string v, .int .i64 t, .int .i64 o] 87)
    rw [hsz] at q
    exact q
  have hok : okR ⟨true, k, true, v, t, o⟩ = (decide (o = 0) && true && true) := by
    rfl
  rw [hok] at hc
  clear hw hst hbad hcc HS0 hok hsz
  have hoB : (o != 0) = !(decide (o = 0)) := by simp [bne, BEq.beq]
  cases bad
  · by_cases ho : o = 0
    · have hoE : (o != 0) = false := by rw [hoB, decide_eq_true ho]; rfl
      rw [decide_eq_true ho] at hc
      clear hoB ho
      obtain rfl : cc = false := by rw [hc]; rfl
      clear hc
      go_enter Tryd.func59, Tryd.ntmps59
      go_wp2_with (first
            | (go_at_call 82; refine (HM.out _).mono ?_; rintro e w1 ⟨rfl, hb1⟩; have HS1 : Hid _ := WrS.below HS.out.1 hb1; have HX1 : Hid (w1.heap[w.heap.size]? = some (.cells #[.bool true, .string k, .bool true, .string v, .int .i64 t, .int .i64 o] 87 (0, 0))) := (hb1.block _ (Array.getElem?_eq_some_iff.1 HX.out).1).trans HX.out; have HK1 : Hid (KeepT w0.heap.size w w1) := HS.out.2.trans (KeepT.of_below hb1); clear hb1)
            | (have _h := HS1; go_at_call 23; refine (HN.out _ HS1.out).mono ?_; rintro e w2 ⟨rfl, hw2, hk2⟩; have HS2 : Hid _ := hw2; have HX2 : Hid (w2.heap[w.heap.size]? = some (.cells #[.bool true, .string k, .bool true, .string v, .int .i64 t, .int .i64 o] 87 (0, 0))) := hk2.box HX1.out HNE.out (by decide); have HK2 : Hid (KeepT w0.heap.size w w2) := HK1.out.trans hk2; obtain ⟨d0, d1, d2, d3, d4, d5, d6⟩ := rc_box (r := ⟨true, k, true, v, t, o⟩) HX2.out; simp only at d0 d1 d2 d3 d4 d5; clear _h hw2 hk2)
            | (have _h := HS2; go_at_call 57; refine (HK.out _ HS2.out).mono ?_; rintro e w3 ⟨rfl, hw3, hk3⟩; have HS3 : Hid _ := hw3; have HX3 : Hid (w3.heap[w.heap.size]? = some (.cells #[.bool true, .string k, .bool true, .string v, .int .i64 t, .int .i64 o] 87 (0, 0))) := hk3.box HX2.out HNE.out (by decide); have HK3 : Hid (KeepT w0.heap.size w w3) := HK2.out.trans hk3; obtain ⟨d0, d1, d2, d3, d4, d5, d6⟩ := rc_box (r := ⟨true, k, true, v, t, o⟩) HX3.out; simp only at d0 d1 d2 d3 d4 d5; clear _h HS2 hw3 hk3)
            | (have _h := HS3; go_at_call 57; refine (HV.out _ HS3.out).mono ?_; rintro e w4 ⟨rfl, hw4, hk4⟩; have HS4 : Hid _ := hw4; have HX4 : Hid (w4.heap[w.heap.size]? = some (.cells #[.bool true, .string k, .bool true, .string v, .int .i64 t, .int .i64 o] 87 (0, 0))) := hk4.box HX3.out HNE.out (by decide); have HK4 : Hid (KeepT w0.heap.size w w4) := HK3.out.trans hk4; obtain ⟨d0, d1, d2, d3, d4, d5, d6⟩ := rc_box (r := ⟨true, k, true, v, t, o⟩) HX4.out; simp only at d0 d1 d2 d3 d4 d5; clear _h HS3 hw4 hk4)
            | (have _h := HS4; go_at_call 56; refine (HT.out _ HS4.out).mono ?_; rintro e w5 ⟨rfl, hw5, hk5⟩; clear _h))
      all_goals
        go_end0
        exact ⟨rfl, hw5, HK4.out.trans hk5⟩
    · have hoE : (o != 0) = true := by rw [hoB, decide_eq_false ho]; rfl
      rw [decide_eq_false ho] at hc
      clear hoB ho
      obtain rfl : cc = true := by rw [hc]; rfl
      clear hc
      go_enter Tryd.func59, Tryd.ntmps59
      go_wp2_with (first
            | (go_at_call 82; refine (HM.out _).mono ?_; rintro e w1 ⟨rfl, hb1⟩; have HS1 : Hid _ := WrS.below HS.out.1 hb1; have HX1 : Hid (w1.heap[w.heap.size]? = some (.cells #[.bool true, .string k, .bool true, .string v, .int .i64 t, .int .i64 o] 87 (0, 0))) := (hb1.block _ (Array.getElem?_eq_some_iff.1 HX.out).1).trans HX.out; have HK1 : Hid (KeepT w0.heap.size w w1) := HS.out.2.trans (KeepT.of_below hb1); clear hb1)
            | (have _h := HS1; go_at_call 23; refine (HN.out _ HS1.out).mono ?_; rintro e w2 ⟨rfl, hw2, hk2⟩; have HS2 : Hid _ := hw2; have HX2 : Hid (w2.heap[w.heap.size]? = some (.cells #[.bool true, .string k, .bool true, .string v, .int .i64 t, .int .i64 o] 87 (0, 0))) := hk2.box HX1.out HNE.out (by decide); have HK2 : Hid (KeepT w0.heap.size w w2) := HK1.out.trans hk2; obtain ⟨d0, d1, d2, d3, d4, d5, d6⟩ := rc_box (r := ⟨true, k, true, v, t, o⟩) HX2.out; simp only at d0 d1 d2 d3 d4 d5; clear _h hw2 hk2)
            | (have _h := HS2; go_at_call 57; refine (HK.out _ HS2.out).mono ?_; rintro e w3 ⟨rfl, hw3, hk3⟩; have HS3 : Hid _ := hw3; have HX3 : Hid (w3.heap[w.heap.size]? = some (.cells #[.bool true, .string k, .bool true, .string v, .int .i64 t, .int .i64 o] 87 (0, 0))) := hk3.box HX2.out HNE.out (by decide); have HK3 : Hid (KeepT w0.heap.size w w3) := HK2.out.trans hk3; obtain ⟨d0, d1, d2, d3, d4, d5, d6⟩ := rc_box (r := ⟨true, k, true, v, t, o⟩) HX3.out; simp only at d0 d1 d2 d3 d4 d5; clear _h HS2 hw3 hk3)
            | (have _h := HS3; go_at_call 57; refine (HV.out _ HS3.out).mono ?_; rintro e w4 ⟨rfl, hw4, hk4⟩; have HS4 : Hid _ := hw4; have HX4 : Hid (w4.heap[w.heap.size]? = some (.cells #[.bool true, .string k, .bool true, .string v, .int .i64 t, .int .i64 o] 87 (0, 0))) := hk4.box HX3.out HNE.out (by decide); have HK4 : Hid (KeepT w0.heap.size w w4) := HK3.out.trans hk4; obtain ⟨d0, d1, d2, d3, d4, d5, d6⟩ := rc_box (r := ⟨true, k, true, v, t, o⟩) HX4.out; simp only at d0 d1 d2 d3 d4 d5; clear _h HS3 hw4 hk4)
            | (have _h := HS4; go_at_call 56; refine (HT.out _ HS4.out).mono ?_; rintro e w5 ⟨rfl, hw5, hk5⟩; clear _h))
      all_goals
        go_end0
        exact ⟨rfl, hw5, HK4.out.trans hk5⟩
  · obtain rfl : cc = true := by rw [hc]; rfl
    clear hc hoB
    go_enter Tryd.func59, Tryd.ntmps59
    go_wp2_with (first
          | (go_at_call 82; refine (HM.out _).mono ?_; rintro e w1 ⟨rfl, hb1⟩; have HS1 : Hid _ := WrS.below HS.out.1 hb1; have HX1 : Hid (w1.heap[w.heap.size]? = some (.cells #[.bool true, .string k, .bool true, .string v, .int .i64 t, .int .i64 o] 87 (0, 0))) := (hb1.block _ (Array.getElem?_eq_some_iff.1 HX.out).1).trans HX.out; have HK1 : Hid (KeepT w0.heap.size w w1) := HS.out.2.trans (KeepT.of_below hb1); clear hb1)
          | (have _h := HS1; go_at_call 23; refine (HN.out _ HS1.out).mono ?_; rintro e w2 ⟨rfl, hw2, hk2⟩; have HS2 : Hid _ := hw2; have HX2 : Hid (w2.heap[w.heap.size]? = some (.cells #[.bool true, .string k, .bool true, .string v, .int .i64 t, .int .i64 o] 87 (0, 0))) := hk2.box HX1.out HNE.out (by decide); have HK2 : Hid (KeepT w0.heap.size w w2) := HK1.out.trans hk2; obtain ⟨d0, d1, d2, d3, d4, d5, d6⟩ := rc_box (r := ⟨true, k, true, v, t, o⟩) HX2.out; simp only at d0 d1 d2 d3 d4 d5; clear _h hw2 hk2)
          | (have _h := HS2; go_at_call 57; refine (HK.out _ HS2.out).mono ?_; rintro e w3 ⟨rfl, hw3, hk3⟩; have HS3 : Hid _ := hw3; have HX3 : Hid (w3.heap[w.heap.size]? = some (.cells #[.bool true, .string k, .bool true, .string v, .int .i64 t, .int .i64 o] 87 (0, 0))) := hk3.box HX2.out HNE.out (by decide); have HK3 : Hid (KeepT w0.heap.size w w3) := HK2.out.trans hk3; obtain ⟨d0, d1, d2, d3, d4, d5, d6⟩ := rc_box (r := ⟨true, k, true, v, t, o⟩) HX3.out; simp only at d0 d1 d2 d3 d4 d5; clear _h HS2 hw3 hk3)
          | (have _h := HS3; go_at_call 57; refine (HV.out _ HS3.out).mono ?_; rintro e w4 ⟨rfl, hw4, hk4⟩; have HS4 : Hid _ := hw4; have HX4 : Hid (w4.heap[w.heap.size]? = some (.cells #[.bool true, .string k, .bool true, .string v, .int .i64 t, .int .i64 o] 87 (0, 0))) := hk4.box HX3.out HNE.out (by decide); have HK4 : Hid (KeepT w0.heap.size w w4) := HK3.out.trans hk4; obtain ⟨d0, d1, d2, d3, d4, d5, d6⟩ := rc_box (r := ⟨true, k, true, v, t, o⟩) HX4.out; simp only at d0 d1 d2 d3 d4 d5; clear _h HS3 hw4 hk4)
          | (have _h := HS4; go_at_call 56; refine (HT.out _ HS4.out).mono ?_; rintro e w5 ⟨rfl, hw5, hk5⟩; clear _h))
    all_goals
      go_end0
      exact ⟨rfl, hw5, HK4.out.trans hk5⟩
set_option maxHeartbeats 400000 in
set_option maxRecDepth 100000 in
theorem wrec_tf (w0 w : World) (st s0 s1 s2 s3 s4 : Ls) (N1 N2 N3 N4 N : Nat) (M : Int) (k v : ByteArray) (t o : Int) (bad cc : Bool) (hbad : bad = st.isNone) (hcc : cc = s0.isNone) (hw : WrS w0 w st N)
    (hc : cc = (bad || !(okR ⟨true, k, false, v, t, o⟩))) (hst : ∀ L, s0 = some L → st = some L) (N5 : Nat)
    (HM : Hid (∀ x, Calls Tryd.prog 82 #[.agg #[.bool true, .string k, .bool false, .string v, .int .i64 t, .int .i64 o]] x fun e w' => e = .returned (.int .i64 M) ∧ Below x.heap.size x w'))
    (HN : Hid (∀ x, WrS w0 x s0 N → Calls Tryd.prog 23 #[.pointer (some ⟨w0.heap.size, 0, none⟩), .int .i64 1, .int .i64 M] x (WP w0 x s1 N1)))
    (HK : Hid (∀ x, WrS w0 x s1 N1 → Calls Tryd.prog 57 #[.pointer (some ⟨w0.heap.size, 0, none⟩), .string k] x (WP w0 x s2 N2)))
    (HV : Hid (∀ x, WrS w0 x s2 N2 → Calls Tryd.prog 57 #[.pointer (some ⟨w0.heap.size, 0, none⟩), .string v] x (WP w0 x s3 N3)))
    (HT : Hid (∀ x, WrS w0 x s2 N2 → Calls Tryd.prog 56 #[.pointer (some ⟨w0.heap.size, 0, none⟩), .int .i64 t] x (WP w0 x s4 N4))) :
    Calls Tryd.prog 59 #[.pointer (some ⟨w0.heap.size, 0, none⟩), .agg #[.bool true, .string k, .bool false, .string v, .int .i64 t, .int .i64 o]] w (WP w0 w s4 N4) := by
  obtain ⟨a, m, c, c0, c1, f0, f1, hz⟩ := hw.open
  rw [← hbad] at c1
  have HNE : Hid (w.heap.size ≠ w0.heap.size) := by show _ ≠ _; omega
  have hne1 : ¬ w0.heap.size = w.heap.size := by omega
  have hne2 : ¬ w.heap.size = w0.heap.size := by omega
  have HS0 : Hid _ := hw.setBad s0 cc hcc hst
  have hsz : (w.setCell ⟨w0.heap.size, 1, none⟩ (.bool cc)).heap.size = w.heap.size := by simp [World.setCell]
  have HS : Hid (WrS w0 ((w.setCell ⟨w0.heap.size, 1, none⟩ (.bool cc)).alloc (.cells #[.bool true, .string k, .bool false, .string v, .int .i64 t, .int .i64 o] 87)) s0 N ∧ KeepT w0.heap.size w ((w.setCell ⟨w0.heap.size, 1, none⟩ (.bool cc)).alloc (.cells #[.bool true, .string k, .bool false, .string v, .int .i64 t, .int .i64 o] 87))) := ⟨HS0.out.1.below (below_box _), HS0.out.2.trans (KeepT.of_below (below_box _))⟩
  have HX : Hid (((w.setCell ⟨w0.heap.size, 1, none⟩ (.bool cc)).alloc (.cells #[.bool true, .string k, .bool false, .string v, .int .i64 t, .int .i64 o] 87)).heap[w.heap.size]? = some (.cells #[.bool true, .string k, .bool false, .string v, .int .i64 t, .int .i64 o] 87 (0, 0))) := by
    have q := heap_alloc_new (w.setCell ⟨w0.heap.size, 1, none⟩ (.bool cc)) (.cells #[.bool true, .string k, .bool false, .string v, .int .i64 t, .int .i64 o] 87)
    rw [hsz] at q
    exact q
  have hok : okR ⟨true, k, false, v, t, o⟩ = (decide (o = 0) && true && v.toList.isEmpty) := by
    rw [str_nil v]; rfl
  rw [hok] at hc
  clear hw hst hbad hcc HS0 hok hsz
  have hoB : (o != 0) = !(decide (o = 0)) := by simp [bne, BEq.beq]
  cases bad
  · by_cases ho : o = 0
    · have hoE : (o != 0) = false := by rw [hoB, decide_eq_true ho]; rfl
      rw [decide_eq_true ho] at hc
      clear hoB ho
      cases hvq : v.toList.isEmpty with
      | false =>
        rw [hvq] at hc
        obtain rfl : cc = true := by rw [hc]; rfl
        clear hc
        go_enter Tryd.func59, Tryd.ntmps59
        go_wp2_with (first
              | (go_at_call 82; refine (HM.out _).mono ?_; rintro e w1 ⟨rfl, hb1⟩; have HS1 : Hid _ := WrS.below HS.out.1 hb1; have HX1 : Hid (w1.heap[w.heap.size]? = some (.cells #[.bool true, .string k, .bool false, .string v, .int .i64 t, .int .i64 o] 87 (0, 0))) := (hb1.block _ (Array.getElem?_eq_some_iff.1 HX.out).1).trans HX.out; have HK1 : Hid (KeepT w0.heap.size w w1) := HS.out.2.trans (KeepT.of_below hb1); clear hb1)
              | (have _h := HS1; go_at_call 23; refine (HN.out _ HS1.out).mono ?_; rintro e w2 ⟨rfl, hw2, hk2⟩; have HS2 : Hid _ := hw2; have HX2 : Hid (w2.heap[w.heap.size]? = some (.cells #[.bool true, .string k, .bool false, .string v, .int .i64 t, .int .i64 o] 87 (0, 0))) := hk2.box HX1.out HNE.out (by decide); have HK2 : Hid (KeepT w0.heap.size w w2) := HK1.out.trans hk2; obtain ⟨d0, d1, d2, d3, d4, d5, d6⟩ := rc_box (r := ⟨true, k, false, v, t, o⟩) HX2.out; simp only at d0 d1 d2 d3 d4 d5; clear _h hw2 hk2)
              | (have _h := HS2; go_at_call 57; refine (HK.out _ HS2.out).mono ?_; rintro e w3 ⟨rfl, hw3, hk3⟩; have HS3 : Hid _ := hw3; have HX3 : Hid (w3.heap[w.heap.size]? = some (.cells #[.bool true, .string k, .bool false, .string v, .int .i64 t, .int .i64 o] 87 (0, 0))) := hk3.box HX2.out HNE.out (by decide); have HK3 : Hid (KeepT w0.heap.size w w3) := HK2.out.trans hk3; obtain ⟨d0, d1, d2, d3, d4, d5, d6⟩ := rc_box (r := ⟨true, k, false, v, t, o⟩) HX3.out; simp only at d0 d1 d2 d3 d4 d5; clear _h HS2 hw3 hk3)
              | (have _h := HS3; go_at_call 56; refine (HT.out _ HS3.out).mono ?_; rintro e w5 ⟨rfl, hw5, hk5⟩; clear _h))
        all_goals
          go_end0
          exact ⟨rfl, hw5, HK3.out.trans hk5⟩
      | true =>
        rw [hvq] at hc
        obtain rfl : cc = false := by rw [hc]; rfl
        clear hc
        go_enter Tryd.func59, Tryd.ntmps59
        go_wp2_with (first
              | (go_at_call 82; refine (HM.out _).mono ?_; rintro e w1 ⟨rfl, hb1⟩; have HS1 : Hid _ := WrS.below HS.out.1 hb1; have HX1 : Hid (w1.heap[w.heap.size]? = some (.cells #[.bool true, .string k, .bool false, .string v, .int .i64 t, .int .i64 o] 87 (0, 0))) := (hb1.block _ (Array.getElem?_eq_some_iff.1 HX.out).1).trans HX.out; have HK1 : Hid (KeepT w0.heap.size w w1) := HS.out.2.trans (KeepT.of_below hb1); clear hb1)
              | (have _h := HS1; go_at_call 23; refine (HN.out _ HS1.out).mono ?_; rintro e w2 ⟨rfl, hw2, hk2⟩; have HS2 : Hid _ := hw2; have HX2 : Hid (w2.heap[w.heap.size]? = some (.cells #[.bool true, .string k, .bool false, .string v, .int .i64 t, .int .i64 o] 87 (0, 0))) := hk2.box HX1.out HNE.out (by decide); have HK2 : Hid (KeepT w0.heap.size w w2) := HK1.out.trans hk2; obtain ⟨d0, d1, d2, d3, d4, d5, d6⟩ := rc_box (r := ⟨true, k, false, v, t, o⟩) HX2.out; simp only at d0 d1 d2 d3 d4 d5; clear _h hw2 hk2)
              | (have _h := HS2; go_at_call 57; refine (HK.out _ HS2.out).mono ?_; rintro e w3 ⟨rfl, hw3, hk3⟩; have HS3 : Hid _ := hw3; have HX3 : Hid (w3.heap[w.heap.size]? = some (.cells #[.bool true, .string k, .bool false, .string v, .int .i64 t, .int .i64 o] 87 (0, 0))) := hk3.box HX2.out HNE.out (by decide); have HK3 : Hid (KeepT w0.heap.size w w3) := HK2.out.trans hk3; obtain ⟨d0, d1, d2, d3, d4, d5, d6⟩ := rc_box (r := ⟨true, k, false, v, t, o⟩) HX3.out; simp only at d0 d1 d2 d3 d4 d5; clear _h HS2 hw3 hk3)
              | (have _h := HS3; go_at_call 56; refine (HT.out _ HS3.out).mono ?_; rintro e w5 ⟨rfl, hw5, hk5⟩; clear _h))
        all_goals
          go_end0
          exact ⟨rfl, hw5, HK3.out.trans hk5⟩
    · have hoE : (o != 0) = true := by rw [hoB, decide_eq_false ho]; rfl
      rw [decide_eq_false ho] at hc
      clear hoB ho
      obtain rfl : cc = true := by rw [hc]; rfl
      clear hc
      go_enter Tryd.func59, Tryd.ntmps59
      go_wp2_with (first
            | (go_at_call 82; refine (HM.out _).mono ?_; rintro e w1 ⟨rfl, hb1⟩; have HS1 : Hid _ := WrS.below HS.out.1 hb1; have HX1 : Hid (w1.heap[w.heap.size]? = some (.cells #[.bool true, .string k, .bool false, .string v, .int .i64 t, .int .i64 o] 87 (0, 0))) := (hb1.block _ (Array.getElem?_eq_some_iff.1 HX.out).1).trans HX.out; have HK1 : Hid (KeepT w0.heap.size w w1) := HS.out.2.trans (KeepT.of_below hb1); clear hb1)
            | (have _h := HS1; go_at_call 23; refine (HN.out _ HS1.out).mono ?_; rintro e w2 ⟨rfl, hw2, hk2⟩; have HS2 : Hid _ := hw2; have HX2 : Hid (w2.heap[w.heap.size]? = some (.cells #[.bool true, .string k, .bool false, .string v, .int .i64 t, .int .i64 o] 87 (0, 0))) := hk2.box HX1.out HNE.out (by decide); have HK2 : Hid (KeepT w0.heap.size w w2) := HK1.out.trans hk2; obtain ⟨d0, d1, d2, d3, d4, d5, d6⟩ := rc_box (r := ⟨true, k, false, v, t, o⟩) HX2.out; simp only at d0 d1 d2 d3 d4 d5; clear _h hw2 hk2)
            | (have _h := HS2; go_at_call 57; refine (HK.out _ HS2.out).mono ?_; rintro e w3 ⟨rfl, hw3, hk3⟩; have HS3 : Hid _ := hw3; have HX3 : Hid (w3.heap[w.heap.size]? = some (.cells #[.bool true, .string k, .bool false, .string v, .int .i64 t, .int .i64 o] 87 (0, 0))) := hk3.box HX2.out HNE.out (by decide); have HK3 : Hid (KeepT w0.heap.size w w3) := HK2.out.trans hk3; obtain ⟨d0, d1, d2, d3, d4, d5, d6⟩ := rc_box (r := ⟨true, k, false, v, t, o⟩) HX3.out; simp only at d0 d1 d2 d3 d4 d5; clear _h HS2 hw3 hk3)
            | (have _h := HS3; go_at_call 56; refine (HT.out _ HS3.out).mono ?_; rintro e w5 ⟨rfl, hw5, hk5⟩; clear _h))
      all_goals
        go_end0
        exact ⟨rfl, hw5, HK3.out.trans hk5⟩
  · obtain rfl : cc = true := by rw [hc]; rfl
    clear hc hoB
    go_enter Tryd.func59, Tryd.ntmps59
    go_wp2_with (first
          | (go_at_call 82; refine (HM.out _).mono ?_; rintro e w1 ⟨rfl, hb1⟩; have HS1 : Hid _ := WrS.below HS.out.1 hb1; have HX1 : Hid (w1.heap[w.heap.size]? = some (.cells #[.bool true, .string k, .bool false, .string v, .int .i64 t, .int .i64 o] 87 (0, 0))) := (hb1.block _ (Array.getElem?_eq_some_iff.1 HX.out).1).trans HX.out; have HK1 : Hid (KeepT w0.heap.size w w1) := HS.out.2.trans (KeepT.of_below hb1); clear hb1)
          | (have _h := HS1; go_at_call 23; refine (HN.out _ HS1.out).mono ?_; rintro e w2 ⟨rfl, hw2, hk2⟩; have HS2 : Hid _ := hw2; have HX2 : Hid (w2.heap[w.heap.size]? = some (.cells #[.bool true, .string k, .bool false, .string v, .int .i64 t, .int .i64 o] 87 (0, 0))) := hk2.box HX1.out HNE.out (by decide); have HK2 : Hid (KeepT w0.heap.size w w2) := HK1.out.trans hk2; obtain ⟨d0, d1, d2, d3, d4, d5, d6⟩ := rc_box (r := ⟨true, k, false, v, t, o⟩) HX2.out; simp only at d0 d1 d2 d3 d4 d5; clear _h hw2 hk2)
          | (have _h := HS2; go_at_call 57; refine (HK.out _ HS2.out).mono ?_; rintro e w3 ⟨rfl, hw3, hk3⟩; have HS3 : Hid _ := hw3; have HX3 : Hid (w3.heap[w.heap.size]? = some (.cells #[.bool true, .string k, .bool false, .string v, .int .i64 t, .int .i64 o] 87 (0, 0))) := hk3.box HX2.out HNE.out (by decide); have HK3 : Hid (KeepT w0.heap.size w w3) := HK2.out.trans hk3; obtain ⟨d0, d1, d2, d3, d4, d5, d6⟩ := rc_box (r := ⟨true, k, false, v, t, o⟩) HX3.out; simp only at d0 d1 d2 d3 d4 d5; clear _h HS2 hw3 hk3)
          | (have _h := HS3; go_at_call 56; refine (HT.out _ HS3.out).mono ?_; rintro e w5 ⟨rfl, hw5, hk5⟩; clear _h))
    all_goals
      go_end0
      exact ⟨rfl, hw5, HK3.out.trans hk5⟩
set_option maxHeartbeats 400000 in
set_option maxRecDepth 100000 in
theorem wrec_ft (w0 w : World) (st s0 s1 s2 s3 s4 : Ls) (N1 N2 N3 N4 N : Nat) (M : Int) (k v : ByteArray) (t o : Int) (bad cc : Bool) (hbad : bad = st.isNone) (hcc : cc = s0.isNone) (hw : WrS w0 w st N)
    (hc : cc = (bad || !(okR ⟨false, k, true, v, t, o⟩))) (hst : ∀ L, s0 = some L → st = some L) (N5 : Nat)
    (HM : Hid (∀ x, Calls Tryd.prog 82 #[.agg #[.bool false, .string k, .bool true, .string v, .int .i64 t, .int .i64 o]] x fun e w' => e = .returned (.int .i64 M) ∧ Below x.heap.size x w'))
    (HN : Hid (∀ x, WrS w0 x s0 N → Calls Tryd.prog 23 #[.pointer (some ⟨w0.heap.size, 0, none⟩), .int .i64 1, .int .i64 M] x (WP w0 x s1 N1)))
    (HK : Hid (∀ x, WrS w0 x s1 N1 → Calls Tryd.prog 57 #[.pointer (some ⟨w0.heap.size, 0, none⟩), .string k] x (WP w0 x s2 N2)))
    (HV : Hid (∀ x, WrS w0 x s1 N1 → Calls Tryd.prog 57 #[.pointer (some ⟨w0.heap.size, 0, none⟩), .string v] x (WP w0 x s3 N3)))
    (HT : Hid (∀ x, WrS w0 x s3 N3 → Calls Tryd.prog 56 #[.pointer (some ⟨w0.heap.size, 0, none⟩), .int .i64 t] x (WP w0 x s4 N4))) :
    Calls Tryd.prog 59 #[.pointer (some ⟨w0.heap.size, 0, none⟩), .agg #[.bool false, .string k, .bool true, .string v, .int .i64 t, .int .i64 o]] w (WP w0 w s4 N4) := by
  obtain ⟨a, m, c, c0, c1, f0, f1, hz⟩ := hw.open
  rw [← hbad] at c1
  have HNE : Hid (w.heap.size ≠ w0.heap.size) := by show _ ≠ _; omega
  have hne1 : ¬ w0.heap.size = w.heap.size := by omega
  have hne2 : ¬ w.heap.size = w0.heap.size := by omega
  have HS0 : Hid _ := hw.setBad s0 cc hcc hst
  have hsz : (w.setCell ⟨w0.heap.size, 1, none⟩ (.bool cc)).heap.size = w.heap.size := by simp [World.setCell]
  have HS : Hid (WrS w0 ((w.setCell ⟨w0.heap.size, 1, none⟩ (.bool cc)).alloc (.cells #[.bool false, .string k, .bool true, .string v, .int .i64 t, .int .i64 o] 87)) s0 N ∧ KeepT w0.heap.size w ((w.setCell ⟨w0.heap.size, 1, none⟩ (.bool cc)).alloc (.cells #[.bool false, .string k, .bool true, .string v, .int .i64 t, .int .i64 o] 87))) := ⟨HS0.out.1.below (below_box _), HS0.out.2.trans (KeepT.of_below (below_box _))⟩
  have HX : Hid (((w.setCell ⟨w0.heap.size, 1, none⟩ (.bool cc)).alloc (.cells #[.bool false, .string k, .bool true, .string v, .int .i64 t, .int .i64 o] 87)).heap[w.heap.size]? = some (.cells #[.bool false, .string k, .bool true, .string v, .int .i64 t, .int .i64 o] 87 (0, 0))) := by
    have q := heap_alloc_new (w.setCell ⟨w0.heap.size, 1, none⟩ (.bool cc)) (.cells #[.bool false, .string k, .bool true, .string v, .int .i64 t, .int .i64 o] 87)
    rw [hsz] at q
    exact q
  have hok : okR ⟨false, k, true, v, t, o⟩ = (decide (o = 0) && k.toList.isEmpty && true) := by
    rw [str_nil k]; rfl
  rw [hok] at hc
  clear hw hst hbad hcc HS0 hok hsz
  have hoB : (o != 0) = !(decide (o = 0)) := by simp [bne, BEq.beq]
  cases bad
  · by_cases ho : o = 0
    · have hoE : (o != 0) = false := by rw [hoB, decide_eq_true ho]; rfl
      rw [decide_eq_true ho] at hc
      clear hoB ho
      cases hkq : k.toList.isEmpty with
      | false =>
        rw [hkq] at hc
        obtain rfl : cc = true := by rw [hc]; rfl
        clear hc
        go_enter Tryd.func59, Tryd.ntmps59
        go_wp2_with (first
              | (go_at_call 82; refine (HM.out _).mono ?_; rintro e w1 ⟨rfl, hb1⟩; have HS1 : Hid _ := WrS.below HS.out.1 hb1; have HX1 : Hid (w1.heap[w.heap.size]? = some (.cells #[.bool false, .string k, .bool true, .string v, .int .i64 t, .int .i64 o] 87 (0, 0))) := (hb1.block _ (Array.getElem?_eq_some_iff.1 HX.out).1).trans HX.out; have HK1 : Hid (KeepT w0.heap.size w w1) := HS.out.2.trans (KeepT.of_below hb1); clear hb1)
              | (have _h := HS1; go_at_call 23; refine (HN.out _ HS1.out).mono ?_; rintro e w2 ⟨rfl, hw2, hk2⟩; have HS2 : Hid _ := hw2; have HX2 : Hid (w2.heap[w.heap.size]? = some (.cells #[.bool false, .string k, .bool true, .string v, .int .i64 t, .int .i64 o] 87 (0, 0))) := hk2.box HX1.out HNE.out (by decide); have HK2 : Hid (KeepT w0.heap.size w w2) := HK1.out.trans hk2; obtain ⟨d0, d1, d2, d3, d4, d5, d6⟩ := rc_box (r := ⟨false, k, true, v, t, o⟩) HX2.out; simp only at d0 d1 d2 d3 d4 d5; clear _h hw2 hk2)
              | (have _h := HS2; go_at_call 57; refine (HV.out _ HS2.out).mono ?_; rintro e w4 ⟨rfl, hw4, hk4⟩; have HS4 : Hid _ := hw4; have HX4 : Hid (w4.heap[w.heap.size]? = some (.cells #[.bool false, .string k, .bool true, .string v, .int .i64 t, .int .i64 o] 87 (0, 0))) := hk4.box HX2.out HNE.out (by decide); have HK4 : Hid (KeepT w0.heap.size w w4) := HK2.out.trans hk4; obtain ⟨d0, d1, d2, d3, d4, d5, d6⟩ := rc_box (r := ⟨false, k, true, v, t, o⟩) HX4.out; simp only at d0 d1 d2 d3 d4 d5; clear _h HS2 hw4 hk4)
              | (have _h := HS4; go_at_call 56; refine (HT.out _ HS4.out).mono ?_; rintro e w5 ⟨rfl, hw5, hk5⟩; clear _h))
        all_goals
          go_end0
          exact ⟨rfl, hw5, HK4.out.trans hk5⟩
      | true =>
        rw [hkq] at hc
        obtain rfl : cc = false := by rw [hc]; rfl
        clear hc
        go_enter Tryd.func59, Tryd.ntmps59
        go_wp2_with (first
              | (go_at_call 82; refine (HM.out _).mono ?_; rintro e w1 ⟨rfl, hb1⟩; have HS1 : Hid _ := WrS.below HS.out.1 hb1; have HX1 : Hid (w1.heap[w.heap.size]? = some (.cells #[.bool false, .string k, .bool true, .string v, .int .i64 t, .int .i64 o] 87 (0, 0))) := (hb1.block _ (Array.getElem?_eq_some_iff.1 HX.out).1).trans HX.out; have HK1 : Hid (KeepT w0.heap.size w w1) := HS.out.2.trans (KeepT.of_below hb1); clear hb1)
              | (have _h := HS1; go_at_call 23; refine (HN.out _ HS1.out).mono ?_; rintro e w2 ⟨rfl, hw2, hk2⟩; have HS2 : Hid _ := hw2; have HX2 : Hid (w2.heap[w.heap.size]? = some (.cells #[.bool false, .string k, .bool true, .string v, .int .i64 t, .int .i64 o] 87 (0, 0))) := hk2.box HX1.out HNE.out (by decide); have HK2 : Hid (KeepT w0.heap.size w w2) := HK1.out.trans hk2; obtain ⟨d0, d1, d2, d3, d4, d5, d6⟩ := rc_box (r := ⟨false, k, true, v, t, o⟩) HX2.out; simp only at d0 d1 d2 d3 d4 d5; clear _h hw2 hk2)
              | (have _h := HS2; go_at_call 57; refine (HV.out _ HS2.out).mono ?_; rintro e w4 ⟨rfl, hw4, hk4⟩; have HS4 : Hid _ := hw4; have HX4 : Hid (w4.heap[w.heap.size]? = some (.cells #[.bool false, .string k, .bool true, .string v, .int .i64 t, .int .i64 o] 87 (0, 0))) := hk4.box HX2.out HNE.out (by decide); have HK4 : Hid (KeepT w0.heap.size w w4) := HK2.out.trans hk4; obtain ⟨d0, d1, d2, d3, d4, d5, d6⟩ := rc_box (r := ⟨false, k, true, v, t, o⟩) HX4.out; simp only at d0 d1 d2 d3 d4 d5; clear _h HS2 hw4 hk4)
              | (have _h := HS4; go_at_call 56; refine (HT.out _ HS4.out).mono ?_; rintro e w5 ⟨rfl, hw5, hk5⟩; clear _h))
        all_goals
          go_end0
          exact ⟨rfl, hw5, HK4.out.trans hk5⟩
    · have hoE : (o != 0) = true := by rw [hoB, decide_eq_false ho]; rfl
      rw [decide_eq_false ho] at hc
      clear hoB ho
      obtain rfl : cc = true := by rw [hc]; rfl
      clear hc
      go_enter Tryd.func59, Tryd.ntmps59
      go_wp2_with (first
            | (go_at_call 82; refine (HM.out _).mono ?_; rintro e w1 ⟨rfl, hb1⟩; have HS1 : Hid _ := WrS.below HS.out.1 hb1; have HX1 : Hid (w1.heap[w.heap.size]? = some (.cells #[.bool false, .string k, .bool true, .string v, .int .i64 t, .int .i64 o] 87 (0, 0))) := (hb1.block _ (Array.getElem?_eq_some_iff.1 HX.out).1).trans HX.out; have HK1 : Hid (KeepT w0.heap.size w w1) := HS.out.2.trans (KeepT.of_below hb1); clear hb1)
            | (have _h := HS1; go_at_call 23; refine (HN.out _ HS1.out).mono ?_; rintro e w2 ⟨rfl, hw2, hk2⟩; have HS2 : Hid _ := hw2; have HX2 : Hid (w2.heap[w.heap.size]? = some (.cells #[.bool false, .string k, .bool true, .string v, .int .i64 t, .int .i64 o] 87 (0, 0))) := hk2.box HX1.out HNE.out (by decide); have HK2 : Hid (KeepT w0.heap.size w w2) := HK1.out.trans hk2; obtain ⟨d0, d1, d2, d3, d4, d5, d6⟩ := rc_box (r := ⟨false, k, true, v, t, o⟩) HX2.out; simp only at d0 d1 d2 d3 d4 d5; clear _h hw2 hk2)
            | (have _h := HS2; go_at_call 57; refine (HV.out _ HS2.out).mono ?_; rintro e w4 ⟨rfl, hw4, hk4⟩; have HS4 : Hid _ := hw4; have HX4 : Hid (w4.heap[w.heap.size]? = some (.cells #[.bool false, .string k, .bool true, .string v, .int .i64 t, .int .i64 o] 87 (0, 0))) := hk4.box HX2.out HNE.out (by decide); have HK4 : Hid (KeepT w0.heap.size w w4) := HK2.out.trans hk4; obtain ⟨d0, d1, d2, d3, d4, d5, d6⟩ := rc_box (r := ⟨false, k, true, v, t, o⟩) HX4.out; simp only at d0 d1 d2 d3 d4 d5; clear _h HS2 hw4 hk4)
            | (have _h := HS4; go_at_call 56; refine (HT.out _ HS4.out).mono ?_; rintro e w5 ⟨rfl, hw5, hk5⟩; clear _h))
      all_goals
        go_end0
        exact ⟨rfl, hw5, HK4.out.trans hk5⟩
  · obtain rfl : cc = true := by rw [hc]; rfl
    clear hc hoB
    go_enter Tryd.func59, Tryd.ntmps59
    go_wp2_with (first
          | (go_at_call 82; refine (HM.out _).mono ?_; rintro e w1 ⟨rfl, hb1⟩; have HS1 : Hid _ := WrS.below HS.out.1 hb1; have HX1 : Hid (w1.heap[w.heap.size]? = some (.cells #[.bool false, .string k, .bool true, .string v, .int .i64 t, .int .i64 o] 87 (0, 0))) := (hb1.block _ (Array.getElem?_eq_some_iff.1 HX.out).1).trans HX.out; have HK1 : Hid (KeepT w0.heap.size w w1) := HS.out.2.trans (KeepT.of_below hb1); clear hb1)
          | (have _h := HS1; go_at_call 23; refine (HN.out _ HS1.out).mono ?_; rintro e w2 ⟨rfl, hw2, hk2⟩; have HS2 : Hid _ := hw2; have HX2 : Hid (w2.heap[w.heap.size]? = some (.cells #[.bool false, .string k, .bool true, .string v, .int .i64 t, .int .i64 o] 87 (0, 0))) := hk2.box HX1.out HNE.out (by decide); have HK2 : Hid (KeepT w0.heap.size w w2) := HK1.out.trans hk2; obtain ⟨d0, d1, d2, d3, d4, d5, d6⟩ := rc_box (r := ⟨false, k, true, v, t, o⟩) HX2.out; simp only at d0 d1 d2 d3 d4 d5; clear _h hw2 hk2)
          | (have _h := HS2; go_at_call 57; refine (HV.out _ HS2.out).mono ?_; rintro e w4 ⟨rfl, hw4, hk4⟩; have HS4 : Hid _ := hw4; have HX4 : Hid (w4.heap[w.heap.size]? = some (.cells #[.bool false, .string k, .bool true, .string v, .int .i64 t, .int .i64 o] 87 (0, 0))) := hk4.box HX2.out HNE.out (by decide); have HK4 : Hid (KeepT w0.heap.size w w4) := HK2.out.trans hk4; obtain ⟨d0, d1, d2, d3, d4, d5, d6⟩ := rc_box (r := ⟨false, k, true, v, t, o⟩) HX4.out; simp only at d0 d1 d2 d3 d4 d5; clear _h HS2 hw4 hk4)
          | (have _h := HS4; go_at_call 56; refine (HT.out _ HS4.out).mono ?_; rintro e w5 ⟨rfl, hw5, hk5⟩; clear _h))
    all_goals
      go_end0
      exact ⟨rfl, hw5, HK4.out.trans hk5⟩
set_option maxHeartbeats 400000 in
set_option maxRecDepth 100000 in
theorem wrec_ff (w0 w : World) (st s0 s1 s2 s3 s4 : Ls) (N1 N2 N3 N4 N : Nat) (M : Int) (k v : ByteArray) (t o : Int) (bad cc : Bool) (hbad : bad = st.isNone) (hcc : cc = s0.isNone) (hw : WrS w0 w st N)
    (hc : cc = (bad || !(okR ⟨false, k, false, v, t, o⟩))) (hst : ∀ L, s0 = some L → st = some L) (N5 : Nat)
    (HM : Hid (∀ x, Calls Tryd.prog 82 #[.agg #[.bool false, .string k, .bool false, .string v, .int .i64 t, .int .i64 o]] x fun e w' => e = .returned (.int .i64 M) ∧ Below x.heap.size x w'))
    (HN : Hid (∀ x, WrS w0 x s0 N → Calls Tryd.prog 23 #[.pointer (some ⟨w0.heap.size, 0, none⟩), .int .i64 1, .int .i64 M] x (WP w0 x s1 N1)))
    (HK : Hid (∀ x, WrS w0 x s1 N1 → Calls Tryd.prog 57 #[.pointer (some ⟨w0.heap.size, 0, none⟩), .string k] x (WP w0 x s2 N2)))
    (HV : Hid (∀ x, WrS w0 x s1 N1 → Calls Tryd.prog 57 #[.pointer (some ⟨w0.heap.size, 0, none⟩), .string v] x (WP w0 x s3 N3)))
    (HT : Hid (∀ x, WrS w0 x s1 N1 → Calls Tryd.prog 56 #[.pointer (some ⟨w0.heap.size, 0, none⟩), .int .i64 t] x (WP w0 x s4 N4))) :
    Calls Tryd.prog 59 #[.pointer (some ⟨w0.heap.size, 0, none⟩), .agg #[.bool false, .string k, .bool false, .string v, .int .i64 t, .int .i64 o]] w (WP w0 w s4 N4) := by
  obtain ⟨a, m, c, c0, c1, f0, f1, hz⟩ := hw.open
  rw [← hbad] at c1
  have HNE : Hid (w.heap.size ≠ w0.heap.size) := by show _ ≠ _; omega
  have hne1 : ¬ w0.heap.size = w.heap.size := by omega
  have hne2 : ¬ w.heap.size = w0.heap.size := by omega
  have HS0 : Hid _ := hw.setBad s0 cc hcc hst
  have hsz : (w.setCell ⟨w0.heap.size, 1, none⟩ (.bool cc)).heap.size = w.heap.size := by simp [World.setCell]
  have HS : Hid (WrS w0 ((w.setCell ⟨w0.heap.size, 1, none⟩ (.bool cc)).alloc (.cells #[.bool false, .string k, .bool false, .string v, .int .i64 t, .int .i64 o] 87)) s0 N ∧ KeepT w0.heap.size w ((w.setCell ⟨w0.heap.size, 1, none⟩ (.bool cc)).alloc (.cells #[.bool false, .string k, .bool false, .string v, .int .i64 t, .int .i64 o] 87))) := ⟨HS0.out.1.below (below_box _), HS0.out.2.trans (KeepT.of_below (below_box _))⟩
  have HX : Hid (((w.setCell ⟨w0.heap.size, 1, none⟩ (.bool cc)).alloc (.cells #[.bool false, .string k, .bool false, .string v, .int .i64 t, .int .i64 o] 87)).heap[w.heap.size]? = some (.cells #[.bool false, .string k, .bool false, .string v, .int .i64 t, .int .i64 o] 87 (0, 0))) := by
    have q := heap_alloc_new (w.setCell ⟨w0.heap.size, 1, none⟩ (.bool cc)) (.cells #[.bool false, .string k, .bool false, .string v, .int .i64 t, .int .i64 o] 87)
    rw [hsz] at q
    exact q
  have hok : okR ⟨false, k, false, v, t, o⟩ = (decide (o = 0) && k.toList.isEmpty && v.toList.isEmpty) := by
    rw [str_nil k, str_nil v]; rfl
  rw [hok] at hc
  clear hw hst hbad hcc HS0 hok hsz
  have hoB : (o != 0) = !(decide (o = 0)) := by simp [bne, BEq.beq]
  cases bad
  · by_cases ho : o = 0
    · have hoE : (o != 0) = false := by rw [hoB, decide_eq_true ho]; rfl
      rw [decide_eq_true ho] at hc
      clear hoB ho
      cases hkq : k.toList.isEmpty with
      | false =>
        rw [hkq] at hc
        obtain rfl : cc = true := by rw [hc]; rfl
        clear hc
        go_enter Tryd.func59, Tryd.ntmps59
        go_wp2_with (first
              | (go_at_call 82; refine (HM.out _).mono ?_; rintro e w1 ⟨rfl, hb1⟩; have HS1 : Hid _ := WrS.below HS.out.1 hb1; have HX1 : Hid (w1.heap[w.heap.size]? = some (.cells #[.bool false, .string k, .bool false, .string v, .int .i64 t, .int .i64 o] 87 (0, 0))) := (hb1.block _ (Array.getElem?_eq_some_iff.1 HX.out).1).trans HX.out; have HK1 : Hid (KeepT w0.heap.size w w1) := HS.out.2.trans (KeepT.of_below hb1); clear hb1)
              | (have _h := HS1; go_at_call 23; refine (HN.out _ HS1.out).mono ?_; rintro e w2 ⟨rfl, hw2, hk2⟩; have HS2 : Hid _ := hw2; have HX2 : Hid (w2.heap[w.heap.size]? = some (.cells #[.bool false, .string k, .bool false, .string v, .int .i64 t, .int .i64 o] 87 (0, 0))) := hk2.box HX1.out HNE.out (by decide); have HK2 : Hid (KeepT w0.heap.size w w2) := HK1.out.trans hk2; obtain ⟨d0, d1, d2, d3, d4, d5, d6⟩ := rc_box (r := ⟨false, k, false, v, t, o⟩) HX2.out; simp only at d0 d1 d2 d3 d4 d5; clear _h hw2 hk2)
              | (have _h := HS2; go_at_call 56; refine (HT.out _ HS2.out).mono ?_; rintro e w5 ⟨rfl, hw5, hk5⟩; clear _h))
        all_goals
          go_end0
          exact ⟨rfl, hw5, HK2.out.trans hk5⟩
      | true =>
        rw [hkq] at hc
        cases hvq : v.toList.isEmpty with
        | false =>
          rw [hvq] at hc
          obtain rfl : cc = true := by rw [hc]; rfl
          clear hc
          go_enter Tryd.func59, Tryd.ntmps59
          go_wp2_with (first
                | (go_at_call 82; refine (HM.out _).mono ?_; rintro e w1 ⟨rfl, hb1⟩; have HS1 : Hid _ := WrS.below HS.out.1 hb1; have HX1 : Hid (w1.heap[w.heap.size]? = some (.cells #[.bool false, .string k, .bool false, .string v, .int .i64 t, .int .i64 o] 87 (0, 0))) := (hb1.block _ (Array.getElem?_eq_some_iff.1 HX.out).1).trans HX.out; have HK1 : Hid (KeepT w0.heap.size w w1) := HS.out.2.trans (KeepT.of_below hb1); clear hb1)
                | (have _h := HS1; go_at_call 23; refine (HN.out _ HS1.out).mono ?_; rintro e w2 ⟨rfl, hw2, hk2⟩; have HS2 : Hid _ := hw2; have HX2 : Hid (w2.heap[w.heap.size]? = some (.cells #[.bool false, .string k, .bool false, .string v, .int .i64 t, .int .i64 o] 87 (0, 0))) := hk2.box HX1.out HNE.out (by decide); have HK2 : Hid (KeepT w0.heap.size w w2) := HK1.out.trans hk2; obtain ⟨d0, d1, d2, d3, d4, d5, d6⟩ := rc_box (r := ⟨false, k, false, v, t, o⟩) HX2.out; simp only at d0 d1 d2 d3 d4 d5; clear _h hw2 hk2)
                | (have _h := HS2; go_at_call 56; refine (HT.out _ HS2.out).mono ?_; rintro e w5 ⟨rfl, hw5, hk5⟩; clear _h))
          all_goals
            go_end0
            exact ⟨rfl, hw5, HK2.out.trans hk5⟩
        | true =>
          rw [hvq] at hc
          obtain rfl : cc = false := by rw [hc]; rfl
          clear hc
          go_enter Tryd.func59, Tryd.ntmps59
          go_wp2_with (first
                | (go_at_call 82; refine (HM.out _).mono ?_; rintro e w1 ⟨rfl, hb1⟩; have HS1 : Hid _ := WrS.below HS.out.1 hb1; have HX1 : Hid (w1.heap[w.heap.size]? = some (.cells #[.bool false, .string k, .bool false, .string v, .int .i64 t, .int .i64 o] 87 (0, 0))) := (hb1.block _ (Array.getElem?_eq_some_iff.1 HX.out).1).trans HX.out; have HK1 : Hid (KeepT w0.heap.size w w1) := HS.out.2.trans (KeepT.of_below hb1); clear hb1)
                | (have _h := HS1; go_at_call 23; refine (HN.out _ HS1.out).mono ?_; rintro e w2 ⟨rfl, hw2, hk2⟩; have HS2 : Hid _ := hw2; have HX2 : Hid (w2.heap[w.heap.size]? = some (.cells #[.bool false, .string k, .bool false, .string v, .int .i64 t, .int .i64 o] 87 (0, 0))) := hk2.box HX1.out HNE.out (by decide); have HK2 : Hid (KeepT w0.heap.size w w2) := HK1.out.trans hk2; obtain ⟨d0, d1, d2, d3, d4, d5, d6⟩ := rc_box (r := ⟨false, k, false, v, t, o⟩) HX2.out; simp only at d0 d1 d2 d3 d4 d5; clear _h hw2 hk2)
                | (have _h := HS2; go_at_call 56; refine (HT.out _ HS2.out).mono ?_; rintro e w5 ⟨rfl, hw5, hk5⟩; clear _h))
          all_goals
            go_end0
            exact ⟨rfl, hw5, HK2.out.trans hk5⟩
    · have hoE : (o != 0) = true := by rw [hoB, decide_eq_false ho]; rfl
      rw [decide_eq_false ho] at hc
      clear hoB ho
      obtain rfl : cc = true := by rw [hc]; rfl
      clear hc
      go_enter Tryd.func59, Tryd.ntmps59
      go_wp2_with (first
            | (go_at_call 82; refine (HM.out _).mono ?_; rintro e w1 ⟨rfl, hb1⟩; have HS1 : Hid _ := WrS.below HS.out.1 hb1; have HX1 : Hid (w1.heap[w.heap.size]? = some (.cells #[.bool false, .string k, .bool false, .string v, .int .i64 t, .int .i64 o] 87 (0, 0))) := (hb1.block _ (Array.getElem?_eq_some_iff.1 HX.out).1).trans HX.out; have HK1 : Hid (KeepT w0.heap.size w w1) := HS.out.2.trans (KeepT.of_below hb1); clear hb1)
            | (have _h := HS1; go_at_call 23; refine (HN.out _ HS1.out).mono ?_; rintro e w2 ⟨rfl, hw2, hk2⟩; have HS2 : Hid _ := hw2; have HX2 : Hid (w2.heap[w.heap.size]? = some (.cells #[.bool false, .string k, .bool false, .string v, .int .i64 t, .int .i64 o] 87 (0, 0))) := hk2.box HX1.out HNE.out (by decide); have HK2 : Hid (KeepT w0.heap.size w w2) := HK1.out.trans hk2; obtain ⟨d0, d1, d2, d3, d4, d5, d6⟩ := rc_box (r := ⟨false, k, false, v, t, o⟩) HX2.out; simp only at d0 d1 d2 d3 d4 d5; clear _h hw2 hk2)
            | (have _h := HS2; go_at_call 56; refine (HT.out _ HS2.out).mono ?_; rintro e w5 ⟨rfl, hw5, hk5⟩; clear _h))
      all_goals
        go_end0
        exact ⟨rfl, hw5, HK2.out.trans hk5⟩
  · obtain rfl : cc = true := by rw [hc]; rfl
    clear hc hoB
    go_enter Tryd.func59, Tryd.ntmps59
    go_wp2_with (first
          | (go_at_call 82; refine (HM.out _).mono ?_; rintro e w1 ⟨rfl, hb1⟩; have HS1 : Hid _ := WrS.below HS.out.1 hb1; have HX1 : Hid (w1.heap[w.heap.size]? = some (.cells #[.bool false, .string k, .bool false, .string v, .int .i64 t, .int .i64 o] 87 (0, 0))) := (hb1.block _ (Array.getElem?_eq_some_iff.1 HX.out).1).trans HX.out; have HK1 : Hid (KeepT w0.heap.size w w1) := HS.out.2.trans (KeepT.of_below hb1); clear hb1)
          | (have _h := HS1; go_at_call 23; refine (HN.out _ HS1.out).mono ?_; rintro e w2 ⟨rfl, hw2, hk2⟩; have HS2 : Hid _ := hw2; have HX2 : Hid (w2.heap[w.heap.size]? = some (.cells #[.bool false, .string k, .bool false, .string v, .int .i64 t, .int .i64 o] 87 (0, 0))) := hk2.box HX1.out HNE.out (by decide); have HK2 : Hid (KeepT w0.heap.size w w2) := HK1.out.trans hk2; obtain ⟨d0, d1, d2, d3, d4, d5, d6⟩ := rc_box (r := ⟨false, k, false, v, t, o⟩) HX2.out; simp only at d0 d1 d2 d3 d4 d5; clear _h hw2 hk2)
          | (have _h := HS2; go_at_call 56; refine (HT.out _ HS2.out).mono ?_; rintro e w5 ⟨rfl, hw5, hk5⟩; clear _h))
    all_goals
      go_end0
      exact ⟨rfl, hw5, HK2.out.trans hk5⟩
theorem wrec_any (w0 w : World) (st : Ls) (N : Nat) (r : Rc) (hN : N ≤ 600000000000) (ht : In64 r.t) (hk : r.k.size ≤ 9223372036854775807) (hv : r.v.size ≤ 9223372036854775807) (h : WrS w0 w st N) :
    Calls Tryd.prog 59 #[.pointer (some ⟨w0.heap.size, 0, none⟩), .agg r.cells] w (WP w0 w (oa st (eRec r)) (N + 140000)) := by
  have HM : ∀ x, Calls Tryd.prog 82 #[.agg r.cells] x fun e w' => e = .returned (.int .i64 ((headB r.hk r.hv : Nat) : Int)) ∧ Below x.heap.size x w' := fun x => markOf_any r x
  have hM := (head_bits r.hk r.hv).2.2
  have HN : ∀ s0 x, WrS w0 x s0 N → Calls Tryd.prog 23 #[.pointer (some ⟨w0.heap.size, 0, none⟩), .int .i64 1, .int .i64 ((headB r.hk r.hv : Nat) : Int)] x (WP w0 x (oa s0 (some (lay 1 (headB r.hk r.hv)))) (N + 8)) := fun s0 x hx => by
    have := wnat_any w0 x s0 N 1 1 ((headB r.hk r.hv : Nat) : Int) rfl (by omega) ⟨by omega, by omega⟩ (by omega) hx
    rw [eNat_head] at this
    exact this
  have HK : ∀ s0 x M, M ≤ 700000000000 → WrS w0 x s0 M → Calls Tryd.prog 57 #[.pointer (some ⟨w0.heap.size, 0, none⟩), .string r.k] x (WP w0 x (oa s0 (eText r.k)) (M + 65600)) := fun s0 x M hM hx => wtext_any w0 x s0 M r.k hk (by omega) hx
  have HV : ∀ s0 x M, M ≤ 700000000000 → WrS w0 x s0 M → Calls Tryd.prog 57 #[.pointer (some ⟨w0.heap.size, 0, none⟩), .string r.v] x (WP w0 x (oa s0 (eText r.v)) (M + 65600)) := fun s0 x M hM hx => wtext_any w0 x s0 M r.v hv (by omega) hx
  have HT : ∀ s0 x M, M ≤ 700000000000 → WrS w0 x s0 M → Calls Tryd.prog 56 #[.pointer (some ⟨w0.heap.size, 0, none⟩), .int .i64 r.t] x (WP w0 x (oa s0 (some (eInt r.t))) (M + 8)) := fun s0 x M hM hx => wnum_any w0 x s0 M r.t (by omega) hx
  have key : ∀ (s0 : Ls) (cc : Bool), cc = s0.isNone → cc = (st.isNone || !(okR r)) → (∀ L, s0 = some L → st = some L) → oa (oa (oa (oa s0 (some (lay 1 (headB r.hk r.hv)))) (eIf r.hk r.k)) (eIf r.hv r.v)) (some (eInt r.t)) = oa st (eRec r) →
      Calls Tryd.prog 59 #[.pointer (some ⟨w0.heap.size, 0, none⟩), .agg r.cells] w (WP w0 w (oa st (eRec r)) (N + 140000)) := by
    intro s0 cc hcc hc hst he
    rw [← he]
    have fin : ∀ (s : Ls) (M : Nat), M ≤ N + 140000 → ∀ e w', WP w0 w s M e w' → WP w0 w s (N + 140000) e w' := fun s M hM e w' q => ⟨q.1, q.2.1.mono hM, q.2.2⟩
    obtain ⟨rhk, k, rhv, v, t, o⟩ := r
    simp only [Rc.cells] at HM ⊢
    simp only at HN HK HV HT hM
    cases rhk <;> cases rhv
    · simp only [eIf, Bool.false_eq_true, if_false, oa_nil]
      exact (wrec_ff w0 w st s0 _ _ _ _ _ _ _ (N + 16) N _ k v t o st.isNone cc rfl hcc h hc hst 0 HM (HN s0) (HK _ · _ (by omega)) (HV _ · _ (by omega)) (HT _ · _ (by omega))).mono (fin _ _ (by omega))
    · simp only [eIf, Bool.false_eq_true, if_false, if_true, oa_nil]
      exact (wrec_ft w0 w st s0 _ _ _ _ _ _ _ (N + 8 + 65600 + 8) N _ k v t o st.isNone cc rfl hcc h hc hst 0 HM (HN s0) (HK _ · _ (by omega)) (HV _ · _ (by omega)) (HT _ · _ (by omega))).mono (fin _ _ (by omega))
    · simp only [eIf, Bool.false_eq_true, if_false, if_true, oa_nil]
      exact (wrec_tf w0 w st s0 _ _ _ _ _ _ _ (N + 8 + 65600 + 8) N _ k v t o st.isNone cc rfl hcc h hc hst 0 HM (HN s0) (HK _ · _ (by omega)) (HV _ · _ (by omega)) (HT _ · _ (by omega))).mono (fin _ _ (by omega))
    · simp only [eIf, if_true]
      exact (wrec_tt w0 w st s0 _ _ _ _ _ _ _ (N + 8 + 65600 + 65600 + 8) N _ k v t o st.isNone cc rfl hcc h hc hst 0 HM (HN s0) (HK _ · _ (by omega)) (HV _ · _ (by omega)) (HT _ · _ (by omega))).mono (fin _ _ (by omega))
  cases hok : okR r with
  | true => exact key st st.isNone rfl (by simp [hok]) (fun _ e => e) (wrec_st st r hok).symm
  | false => exact key none true rfl (by simp [hok]) (fun _ e => by cases e) (by rw [wrec_no st r hok]; simp only [none_oa])
end Go.Proofs.YtaooidckmepdeaaDoor
