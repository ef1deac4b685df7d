/- The writer: a batch; rows of texts, numbers, batches. -/
import Derived.Test.YtaooidckmepdeaaDoorKc
import Derived.Test.YtaooidckmepdeaaDoorBw
namespace Go.Proofs.YtaooidckmepdeaaDoor
set_option linter.unusedSimpArgs false
set_option linter.unusedVariables false
open Go.RowKit
/-- Rows of texts, and of numbers. -/
def SRow (w : World) (a : Option Addr) (ss : List ByteArray) : Prop := ∀ i, i < ss.length → ∃ b off, a = some ⟨b, off, none⟩ ∧ w.cell? ⟨b, off + i, none⟩ = some (.string (ss.getD i ⟨#[]⟩))
def IRow (w : World) (a : Option Addr) (ns : List Int) : Prop := ∀ i, i < ns.length → ∃ b off, a = some ⟨b, off, none⟩ ∧ w.cell? ⟨b, off + i, none⟩ = some (.int .i64 (ns.getD i 0))
theorem SRow.below {w w' : World} {a : Option Addr} {ss : List ByteArray} (h : SRow w a ss) (hb : Below w.heap.size w w') : SRow w' a ss := by
  intro i hi
  obtain ⟨b, off, e, h0⟩ := h i hi
  exact ⟨b, off, e, (hb.cell (World.block_lt_of_cell? _ _ h0)).trans h0⟩
theorem IRow.below {w w' : World} {a : Option Addr} {ns : List Int} (h : IRow w a ns) (hb : Below w.heap.size w w') : IRow w' a ns := by
  intro i hi
  obtain ⟨b, off, e, h0⟩ := h i hi
  exact ⟨b, off, e, (hb.cell (World.block_lt_of_cell? _ _ h0)).trans h0⟩
theorem eRow_eq {α : Type} (en : α → Ls) (l : List α) : eRow en l = oa (eNat 2 (l.length : Int)) (eL en l) := by
  unfold eRow eNat
  by_cases h : l.length ≤ 65535
  · rw [if_pos h, if_pos ⟨by omega, by omega⟩, Int.toNat_natCast]
  · rw [if_neg h, if_neg (by omega), none_oa]
/-- What stands behind k of a row. -/
def stL {α : Type} (en : α → Ls) (st : Ls) (l : List α) (k : Nat) : Ls := oa (oa st (eNat 2 (l.length : Int))) (eL en (l.take k))
theorem stL_zero {α : Type} (en : α → Ls) (st : Ls) (l : List α) : stL en st l 0 = oa st (eNat 2 (l.length : Int)) := by unfold stL; simp [eL, oa_nil]
theorem stL_all {α : Type} (en : α → Ls) (st : Ls) (l : List α) : stL en st l l.length = oa st (eRow en l) := by unfold stL; rw [List.take_length, eRow_eq, oa_assoc]
theorem stL_step {α : Type} (en : α → Ls) (st : Ls) (l : List α) (k : Nat) (h : k < l.length) (d : α) : stL en st l (k + 1) = oa (stL en st l k) (en (l.getD k d)) := by
  unfold stL
  rw [List.take_succ_eq_append_getElem h, eL_app, ← oa_assoc]
  congr 1
  simp only [eL, oa_nil]
  simp [List.getD, h]
theorem stL_none {α : Type} (en : α → Ls) (st : Ls) (l : List α) (k : Nat) (h : stL en st l k = none) : oa st (eRow en l) = none := by
  rw [eRow_eq, ← oa_assoc]
  conv => lhs; rw [← List.take_append_drop k l]
  rw [eL_app, ← oa_assoc]
  have h2 : oa (oa st (eNat 2 ((List.take k l ++ List.drop k l).length : Int))) (eL en (List.take k l)) = none := by
    rw [List.take_append_drop]; exact h
  rw [h2, none_oa]
theorem row_off {w : World} {B off : Nat} {v : Value} {a : Option Addr} {l : List Nat} (h : Row w a l) (hne : ∀ y, a = some y → 0 < l.length → y.block ≠ B) : Row (w.setCell ⟨B, off, none⟩ v) a l := by
  intro i hi
  obtain ⟨b, o, e, hc, hl⟩ := h i hi
  refine ⟨b, o, e, ?_, hl⟩
  have := heap_setCell_other w ⟨B, off, none⟩ b v (hne _ e (by omega))
  rw [World.cell?_of_block (a := ⟨b, o + i, none⟩) this]
  exact hc
theorem own_blk {w : World} {M : Nat} {a : Option Addr} {c : Nat} {l : List Nat} {xs : List Value} (h : w.ownsRow M 5 1 (.slice a l.length c) l.length xs) {y : Addr} (hy : a = some y) : M ≤ y.block := by
  subst hy
  rcases h.2 with ⟨e, _⟩ | ⟨g, cap, cur, e, hM, _⟩
  · cases e
  · injection e with e1 e2 e3
    injection e1 with e1
    subst e1
    exact hM
theorem bad_parts {w : World} {M B n : Nat} {v : Value} {b b' : Bool} {xs : List Value} (hx : w.heap[B]? = some (.cells #[v, .bool b] 60 (0, 0))) (ho : w.ownsRow M 5 1 v n xs) :
    (w.setCell ⟨B, 1, none⟩ (.bool b')).heap[B]? = some (.cells #[v, .bool b'] 60 (0, 0)) ∧ (w.setCell ⟨B, 1, none⟩ (.bool b')).ownsRow M 5 1 v n xs := by
  refine ⟨?_, own_setCell ho (own_box ho hx (by decide))⟩
  rw [setCell_heap hx]
  rfl
theorem encBR_le (b : Ba) : (encBR b).length ≤ 6000 ∧ Byt (encBR b) := by
  unfold encBR
  split
  · rename_i h
    obtain ⟨h1, h2⟩ := chk_parts h
    exact ⟨by rw [encB_len]; exact h2, encB_mem h1⟩
  · exact ⟨by simp, fun c hc => by cases hc⟩
set_option maxHeartbeats 400000 in
set_option maxRecDepth 100000 in
theorem wbat_in (w0 w : World) (st s0 : Ls) (N : Nat) (m : List Nat) (ba sp pr sq : Int) (a : Option Addr) (n cap : Nat) (C : Int) (bad cc : Bool) (hbad : bad = st.isNone) (hcc : cc = s0.isNone) (hc : cc = (bad || (C != 0))) (hst : ∀ L, s0 = some L → st = some L) (h : WrS w0 w st N) (hm : m.length ≤ 6000) (hN : N ≤ 900000000000) (HB : Hid (Byt m))
    (HE : Hid (Calls Tryd.prog 83 #[.agg #[.int .i64 ba, .int .i64 sp, .int .i64 pr, .int .i64 sq, .slice a n cap]] (w.alloc (.cells #[.int .i64 ba, .int .i64 sp, .int .i64 pr, .int .i64 sq, .slice a n cap] 85)) fun e w' => ∃ v, e = .returned (.tuple #[v, .int .i64 C]) ∧ w'.ownsRow (w.alloc (.cells #[.int .i64 ba, .int .i64 sp, .int .i64 pr, .int .i64 sq, .slice a n cap] 85)).heap.size 5 1 v m.length (cv m) ∧ Below (w.alloc (.cells #[.int .i64 ba, .int .i64 sp, .int .i64 pr, .int .i64 sq, .slice a n cap] 85)).heap.size (w.alloc (.cells #[.int .i64 ba, .int .i64 sp, .int .i64 pr, .int .i64 sq, .slice a n cap] 85)) w')) :
    Calls Tryd.prog 63 #[.pointer (some ⟨w0.heap.size, 0, none⟩), .agg #[.int .i64 ba, .int .i64 sp, .int .i64 pr, .int .i64 sq, .slice a n cap]] w (WP w0 w (oa s0 (some m)) (N + 6000)) := by
  have HW : Hid (WrS w0 (w.alloc (.cells #[.int .i64 ba, .int .i64 sp, .int .i64 pr, .int .i64 sq, .slice a n cap] 85)) st N) := h.below (below_box _)
  have HK0 : Hid (KeepT w0.heap.size w (w.alloc (.cells #[.int .i64 ba, .int .i64 sp, .int .i64 pr, .int .i64 sq, .slice a n cap] 85))) := KeepT.of_below (below_box _)
  have HWZ : Hid (w0.heap.size < w.heap.size) := by obtain ⟨_, _, _, _, _, _, _, q⟩ := h.open; exact q
  clear h
  have HC : Hid (cc = s0.isNone ∧ ∀ L, s0 = some L → st = some L) := ⟨hcc, hst⟩
  have HBD : Hid (bad = st.isNone) := hbad
  clear hcc hst hbad
  cases bad
  · by_cases hC : C = 0
    · subst hC
      obtain rfl : cc = false := by rw [hc]; rfl
      clear hc
      go_enter Tryd.func63, Tryd.ntmps63
      go_wp2_with (first
        | (go_at_call 83; refine Calls.mono HE.out ?_; rintro e w1 ⟨v, rfl, hown1, hb1⟩; have HS1 : Hid (WrS w0 w1 st N) := WrS.below HW.out hb1; have HK1 : Hid (KeepT w0.heap.size w w1) := HK0.out.trans (KeepT.of_below hb1); obtain ⟨a1, k1, rfl, hr1, hn1⟩ := owns_sl hown1 (Byt.getD HB.out); have HR1 : Hid (Row w1 a1 m) := hr1; have HS2 : Hid _ := WrS.setBad HS1.out s0 false HC.out.1 HC.out.2; have HR2 : Hid (Row (w1.setCell ⟨w0.heap.size, 1, none⟩ (.bool false)) a1 m) := row_off HR1.out (fun y hy _ => by have q := own_blk hown1 hy; simp at q; have q2 := HW.out.open; obtain ⟨_, _, _, _, _, _, _, q3⟩ := q2; simp at q3; have q4 := HK0.out.size; have q5 := HWZ.out; omega); obtain ⟨⟨v2, l2, hx2, ho2, hbt2, hl2, hs2⟩, bel2⟩ := HS1.out; rw [← HBD.out] at hx2; have HX2 : Hid ((w1.setCell ⟨w0.heap.size, 1, none⟩ (.bool false)).heap[w0.heap.size]? = some (.cells #[v2, .bool s0.isNone] 60 (0, 0))) := (by rw [← HC.out.1]; exact (bad_parts hx2 ho2).1); have HO2 : Hid ((w1.setCell ⟨w0.heap.size, 1, none⟩ (.bool false)).ownsRow w0.heap.size 5 1 v2 l2.length (cv l2)) := (bad_parts hx2 ho2).2; have HS3 : Hid (∀ L, s0 = some L → l2 = L) := fun L e => hs2 L (HC.out.2 L e); have HBL2 : Hid (Below w0.heap.size w0 (w1.setCell ⟨w0.heap.size, 1, none⟩ (.bool false))) := HS2.out.1.bel; obtain ⟨a3, c3, rfl⟩ := own_slice ho2; have e0 := (box_at hx2 0).1; have e1 := (box_at hx2 1).1; simp only [List.getElem?_toArray, List.getElem?_cons_zero, List.getElem?_cons_succ] at e0 e1; have g0 := (box_at hx2 0).2; have g1 := (box_at hx2 1).2; clear hr1 hown1 hb1 ho2 hx2 hs2 bel2)
        | (at_builtin; refine wpList_append_rw (by rfl) _ _ rfl w0.heap.size _ l2 rfl HO2.out (HBL2.out.size) a1 _ _ m rfl rfl HR2.out hn1 (by omega) ?_; intro v' w2 ho2 hg2; obtain ⟨a4, c4, rfl⟩ := own_slice ho2; have HF : Hid _ := WrS.app (M := N + 6000) HX2.out HO2.out hbt2 hl2 HS3.out HBL2.out ho2 hg2 HB.out (by omega); have hq2 : Hid _ := (hg2.block w0.heap.size (Array.getElem?_eq_some_iff.1 HX2.out).1 (fun e => own_box HO2.out HX2.out (by decide) _ e.symm rfl)).trans HX2.out; have f2 := (box_at hq2.out 0).2; have d2 := (box_at hq2.out 0).1; simp only [List.getElem?_toArray, List.getElem?_cons_zero] at d2; clear ho2 hg2))
      go_end0
      have q := HF.out
      rw [List.length_append] at q
      exact ⟨rfl, q.1, HK1.out.trans (HS2.out.2.trans q.2)⟩
    · have hC2 : (C != 0) = true := by simpa using hC
      rw [hC2] at hc
      obtain rfl : cc = true := by rw [hc]; rfl
      clear hc
      go_enter Tryd.func63, Tryd.ntmps63
      go_wp2_with (first
        | (go_at_call 83; refine Calls.mono HE.out ?_; rintro e w1 ⟨v, rfl, hown1, hb1⟩; have HS1 : Hid (WrS w0 w1 st N) := WrS.below HW.out hb1; have HK1 : Hid (KeepT w0.heap.size w w1) := HK0.out.trans (KeepT.of_below hb1); obtain ⟨a1, k1, rfl, hr1, hn1⟩ := owns_sl hown1 (Byt.getD HB.out); have HR1 : Hid (Row w1 a1 m) := hr1; have HS2 : Hid _ := WrS.setBad HS1.out s0 true HC.out.1 HC.out.2; have HR2 : Hid (Row (w1.setCell ⟨w0.heap.size, 1, none⟩ (.bool true)) a1 m) := row_off HR1.out (fun y hy _ => by have q := own_blk hown1 hy; simp at q; have q2 := HW.out.open; obtain ⟨_, _, _, _, _, _, _, q3⟩ := q2; simp at q3; have q4 := HK0.out.size; have q5 := HWZ.out; omega); obtain ⟨⟨v2, l2, hx2, ho2, hbt2, hl2, hs2⟩, bel2⟩ := HS1.out; rw [← HBD.out] at hx2; have HX2 : Hid ((w1.setCell ⟨w0.heap.size, 1, none⟩ (.bool true)).heap[w0.heap.size]? = some (.cells #[v2, .bool s0.isNone] 60 (0, 0))) := (by rw [← HC.out.1]; exact (bad_parts hx2 ho2).1); have HO2 : Hid ((w1.setCell ⟨w0.heap.size, 1, none⟩ (.bool true)).ownsRow w0.heap.size 5 1 v2 l2.length (cv l2)) := (bad_parts hx2 ho2).2; have HS3 : Hid (∀ L, s0 = some L → l2 = L) := fun L e => hs2 L (HC.out.2 L e); have HBL2 : Hid (Below w0.heap.size w0 (w1.setCell ⟨w0.heap.size, 1, none⟩ (.bool true))) := HS2.out.1.bel; obtain ⟨a3, c3, rfl⟩ := own_slice ho2; have e0 := (box_at hx2 0).1; have e1 := (box_at hx2 1).1; simp only [List.getElem?_toArray, List.getElem?_cons_zero, List.getElem?_cons_succ] at e0 e1; have g0 := (box_at hx2 0).2; have g1 := (box_at hx2 1).2; clear hr1 hown1 hb1 ho2 hx2 hs2 bel2)
        | (at_builtin; refine wpList_append_rw (by rfl) _ _ rfl w0.heap.size _ l2 rfl HO2.out (HBL2.out.size) a1 _ _ m rfl rfl HR2.out hn1 (by omega) ?_; intro v' w2 ho2 hg2; obtain ⟨a4, c4, rfl⟩ := own_slice ho2; have HF : Hid _ := WrS.app (M := N + 6000) HX2.out HO2.out hbt2 hl2 HS3.out HBL2.out ho2 hg2 HB.out (by omega); have hq2 : Hid _ := (hg2.block w0.heap.size (Array.getElem?_eq_some_iff.1 HX2.out).1 (fun e => own_box HO2.out HX2.out (by decide) _ e.symm rfl)).trans HX2.out; have f2 := (box_at hq2.out 0).2; have d2 := (box_at hq2.out 0).1; simp only [List.getElem?_toArray, List.getElem?_cons_zero] at d2; clear ho2 hg2))
      go_end0
      have q := HF.out
      rw [List.length_append] at q
      exact ⟨rfl, q.1, HK1.out.trans (HS2.out.2.trans q.2)⟩
  · obtain rfl : cc = true := by rw [hc]; rfl
    clear hc
    go_enter Tryd.func63, Tryd.ntmps63
    go_wp2_with (first
      | (go_at_call 83; refine Calls.mono HE.out ?_; rintro e w1 ⟨v, rfl, hown1, hb1⟩; have HS1 : Hid (WrS w0 w1 st N) := WrS.below HW.out hb1; have HK1 : Hid (KeepT w0.heap.size w w1) := HK0.out.trans (KeepT.of_below hb1); obtain ⟨a1, k1, rfl, hr1, hn1⟩ := owns_sl hown1 (Byt.getD HB.out); have HR1 : Hid (Row w1 a1 m) := hr1; have HS2 : Hid _ := WrS.setBad HS1.out s0 true HC.out.1 HC.out.2; have HR2 : Hid (Row (w1.setCell ⟨w0.heap.size, 1, none⟩ (.bool true)) a1 m) := row_off HR1.out (fun y hy _ => by have q := own_blk hown1 hy; simp at q; have q2 := HW.out.open; obtain ⟨_, _, _, _, _, _, _, q3⟩ := q2; simp at q3; have q4 := HK0.out.size; have q5 := HWZ.out; omega); obtain ⟨⟨v2, l2, hx2, ho2, hbt2, hl2, hs2⟩, bel2⟩ := HS1.out; rw [← HBD.out] at hx2; have HX2 : Hid ((w1.setCell ⟨w0.heap.size, 1, none⟩ (.bool true)).heap[w0.heap.size]? = some (.cells #[v2, .bool s0.isNone] 60 (0, 0))) := (by rw [← HC.out.1]; exact (bad_parts hx2 ho2).1); have HO2 : Hid ((w1.setCell ⟨w0.heap.size, 1, none⟩ (.bool true)).ownsRow w0.heap.size 5 1 v2 l2.length (cv l2)) := (bad_parts hx2 ho2).2; have HS3 : Hid (∀ L, s0 = some L → l2 = L) := fun L e => hs2 L (HC.out.2 L e); have HBL2 : Hid (Below w0.heap.size w0 (w1.setCell ⟨w0.heap.size, 1, none⟩ (.bool true))) := HS2.out.1.bel; obtain ⟨a3, c3, rfl⟩ := own_slice ho2; have e0 := (box_at hx2 0).1; have e1 := (box_at hx2 1).1; simp only [List.getElem?_toArray, List.getElem?_cons_zero, List.getElem?_cons_succ] at e0 e1; have g0 := (box_at hx2 0).2; have g1 := (box_at hx2 1).2; clear hr1 hown1 hb1 ho2 hx2 hs2 bel2)
      | (at_builtin; refine wpList_append_rw (by rfl) _ _ rfl w0.heap.size _ l2 rfl HO2.out (HBL2.out.size) a1 _ _ m rfl rfl HR2.out hn1 (by omega) ?_; intro v' w2 ho2 hg2; obtain ⟨a4, c4, rfl⟩ := own_slice ho2; have HF : Hid _ := WrS.app (M := N + 6000) HX2.out HO2.out hbt2 hl2 HS3.out HBL2.out ho2 hg2 HB.out (by omega); have hq2 : Hid _ := (hg2.block w0.heap.size (Array.getElem?_eq_some_iff.1 HX2.out).1 (fun e => own_box HO2.out HX2.out (by decide) _ e.symm rfl)).trans HX2.out; have f2 := (box_at hq2.out 0).2; have d2 := (box_at hq2.out 0).1; simp only [List.getElem?_toArray, List.getElem?_cons_zero] at d2; clear ho2 hg2))
    go_end0
    have q := HF.out
    rw [List.length_append] at q
    exact ⟨rfl, q.1, HK1.out.trans (HS2.out.2.trans q.2)⟩
theorem wbat_any (w0 w : World) (st : Ls) (N : Nat) (b : Ba) (a : Option Addr) (cap : Nat) (hN : N ≤ 900000000000) (hok : BaOk w b a cap) (ht : Tab w) (h : WrS w0 w st N) :
    Calls Tryd.prog 63 #[.pointer (some ⟨w0.heap.size, 0, none⟩), bav b a cap] w (WP w0 w (oa st (eBat b)) (N + 6000)) := by
  obtain ⟨hr, hi, hl, hn, _⟩ := hok
  have HE := bencode_any b a cap hi hl (w.alloc (.cells (bcells b a cap) 85)) (ht.below (below_box _)) (hr.below (below_box _))
  obtain ⟨h6, hb⟩ := encBR_le b
  cases hc : decide (chkB b = 0) with
  | true =>
    simp only [decide_eq_true_eq] at hc
    have e1 : oa st (eBat b) = oa st (some (encBR b)) := by unfold eBat encBR; rw [if_pos hc, if_pos hc]
    rw [e1]
    exact wbat_in w0 w st st N (encBR b) b.base b.span b.prod b.seq a b.rs.length cap (chkB b) st.isNone st.isNone rfl rfl (by rw [hc]; simp) (fun _ e => e) h h6 hN hb HE
  | false =>
    simp only [decide_eq_false_iff_not] at hc
    have e1 : oa st (eBat b) = oa none (some (encBR b)) := by unfold eBat; rw [if_neg hc, oa_none, none_oa]
    rw [e1]
    exact wbat_in w0 w st none N (encBR b) b.base b.span b.prod b.seq a b.rs.length cap (chkB b) st.isNone true rfl rfl (by simp [hc]) (fun _ e => by cases e) h h6 hN hb HE
end Go.Proofs.YtaooidckmepdeaaDoor
