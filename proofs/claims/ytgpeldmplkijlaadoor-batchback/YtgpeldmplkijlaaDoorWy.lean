/- The walk of BatchBack. -/
import Derived.Test.YtgpeldmplkijlaaDoorMv
import Derived.Test.YtgpeldmplkijlaaDoorWe
import Derived.Test.YtgpeldmplkijlaaDoorSm
namespace Go.Proofs.YtgpeldmplkijlaaDoor
set_option linter.unusedSimpArgs false
set_option linter.unusedVariables false
open Go.RowKit
/-- A batch with another Base. -/
def setB (b : Ba) (z : Int) : Ba := ⟨z, b.span, b.prod, b.seq, b.rs⟩
theorem setB_wr {b : Ba} (h : wrE b = 0) {z : Int} (hz : baseB z = true) : wrE (setB b z) = 0 := by
  have h0 := h
  unfold wrE at h ⊢
  split at h
  · rename_i hc
    simp only [numsB, Bool.and_eq_true] at hc
    rw [if_pos]
    · exact h
    · simp only [numsB, setB, Bool.and_eq_true]
      exact ⟨⟨⟨⟨⟨⟨hz, hc.1.1.1.1.1.2⟩, hc.1.1.1.1.2⟩, hc.1.1.1.2⟩, hc.1.1.2⟩, hc.1.2⟩, hc.2⟩
  · omega
theorem setB_chk {b : Ba} (h : chkB b = 0) {z : Int} (hz : baseB z = true) : chkB (setB b z) = 0 := by
  obtain ⟨h1, h2⟩ := chk_parts h
  unfold chkB
  rw [if_pos (setB_wr h1 hz), if_neg]
  show ¬ 6000 < 48 + (bodyL b.rs (frs b)).length
  omega
theorem moved_enc (b : Ba) (z : Nat) : movedL (encBL b) z = encBL (setB b (z : Int)) := by
  have e1 : encBL b = lay 8 b.base.toNat ++ (lay 4 ((tailL b).length + 4) ++ (lay 4 (P.sum (tailL b)) ++ tailL b)) := by simp [encBL, headL]
  have e2 : encBL (setB b (z : Int)) = lay 8 z ++ (lay 4 ((tailL b).length + 4) ++ (lay 4 (P.sum (tailL b)) ++ tailL b)) := by
    have h1 : tailL (setB b (z : Int)) = tailL b := rfl
    have h2 : (setB b (z : Int)).base.toNat = z := by simp [setB]
    unfold encBL headL
    rw [h1, h2, List.append_assoc, List.append_assoc]
  rw [e2]
  unfold movedL
  rw [e1]
  generalize lay 4 ((tailL b).length + 4) ++ (lay 4 (P.sum (tailL b)) ++ tailL b) = R
  have e3 : (lay 8 b.base.toNat ++ R).take 48 = [] ++ (lay 8 b.base.toNat ++ R.take 40) := by
    rw [List.take_append, lay_len, List.take_of_length_le (by rw [lay_len]; omega)]
    rfl
  have e4 : (lay 8 b.base.toNat ++ R).drop 48 = R.drop 40 := by
    rw [List.drop_append, lay_len, List.drop_eq_nil_of_le (by rw [lay_len]; omega)]
    rfl
  rw [put_at (A := []) 0 8 z e3 rfl (lay_len _ _), e4, List.nil_append, List.append_assoc, List.take_append_drop]
theorem box_apart {w x : World} (c0 c1 c2 c3 : Int) (a : Option Addr) (n cap : Nat) (v : Value) (h : w.heap.size < x.heap.size) :
    ((x.alloc (.cells #[.int .i64 c0, .int .i64 c1, .int .i64 c2, .int .i64 c3, .slice a n cap] 24)).setCell ⟨w.heap.size, 0, none⟩ v).cell? ⟨x.heap.size, 0, none⟩ = some (.int .i64 c0) ∧ ((x.alloc (.cells #[.int .i64 c0, .int .i64 c1, .int .i64 c2, .int .i64 c3, .slice a n cap] 24)).setCell ⟨w.heap.size, 0, none⟩ v).cell? ⟨x.heap.size, 1, none⟩ = some (.int .i64 c1) ∧ ((x.alloc (.cells #[.int .i64 c0, .int .i64 c1, .int .i64 c2, .int .i64 c3, .slice a n cap] 24)).setCell ⟨w.heap.size, 0, none⟩ v).cell? ⟨x.heap.size, 2, none⟩ = some (.int .i64 c2) ∧ ((x.alloc (.cells #[.int .i64 c0, .int .i64 c1, .int .i64 c2, .int .i64 c3, .slice a n cap] 24)).setCell ⟨w.heap.size, 0, none⟩ v).cell? ⟨x.heap.size, 3, none⟩ = some (.int .i64 c3) ∧ ((x.alloc (.cells #[.int .i64 c0, .int .i64 c1, .int .i64 c2, .int .i64 c3, .slice a n cap] 24)).setCell ⟨w.heap.size, 0, none⟩ v).cell? ⟨x.heap.size, 4, none⟩ = some (.slice a n cap) := by
  have hc : ∀ j, ((x.alloc (.cells #[.int .i64 c0, .int .i64 c1, .int .i64 c2, .int .i64 c3, .slice a n cap] 24)).setCell ⟨w.heap.size, 0, none⟩ v).cell? ⟨x.heap.size, j, none⟩ = (#[.int .i64 c0, .int .i64 c1, .int .i64 c2, .int .i64 c3, .slice a n cap] : Array Value)[j]? := fun j => by
    rw [World.cell?_setCell_other _ _ _ _ (fun c => by injection c with c1; omega)]
    exact cell_of_row _ x.heap.size j _ 24 (0, 0) (heap_alloc_new x _)
  exact ⟨hc 0, hc 1, hc 2, hc 3, hc 4⟩
theorem rrow_apart {w x : World} {b : Ba} {a a' : Option Addr} {cap : Nat} {rs : List Rc} {v : Value} (h : BxS w (bcells b a cap) x) (hr : RRow x a' rs) : RRow (x.setCell ⟨w.heap.size, 0, none⟩ v) a' rs := by
  intro i hi
  obtain ⟨g, off, e, h0, h1, h2, h3, h4, h5⟩ := hr i hi
  have hg : g ≠ w.heap.size := by
    intro c
    subst c
    rw [cell_of_row x _ _ _ 24 (0, 0) h.box] at h0
    generalize off + i * 6 = k at h0
    match k with
    | 0 => simp [bcells] at h0
    | 1 => simp [bcells] at h0
    | 2 => simp [bcells] at h0
    | 3 => simp [bcells] at h0
    | 4 => simp [bcells] at h0
    | k + 5 => simp [bcells] at h0
  have hne : ∀ o, (⟨w.heap.size, 0, none⟩ : Addr) ≠ ⟨g, o, none⟩ := fun o c => by injection c with c1; exact hg c1.symm
  have hc : ∀ o, (x.setCell ⟨w.heap.size, 0, none⟩ v).cell? ⟨g, o, none⟩ = x.cell? ⟨g, o, none⟩ := fun o => World.cell?_setCell_other _ _ _ _ (hne o)
  exact ⟨g, off, e, (hc _).trans h0, (hc _).trans h1, (hc _).trans h2, (hc _).trans h3, (hc _).trans h4, (hc _).trans h5⟩
theorem bx_free {w x : World} {cs : Array Value} (h : BxS w cs x) : ∀ i, x.frozen? ⟨w.heap.size, i, none⟩ = false := fun i => by simp [World.frozen?, h.box]
theorem bx_set {w x : World} {b : Ba} {a : Option Addr} {cap : Nat} {z : Int} (h : BxS w (bcells b a cap) x) : BxS w (bcells ⟨z, b.span, b.prod, b.seq, b.rs⟩ a cap) (x.setCell ⟨w.heap.size, 0, none⟩ (.int .i64 z)) :=
  ⟨by rw [setCell_heap h.box]; rfl, h.bel.setCell (p := ⟨w.heap.size, 0, none⟩) (Nat.le_refl _) _⟩
set_option maxHeartbeats 3200000 in
set_option maxRecDepth 100000 in
theorem back_good (b : Ba) (a : Option Addr) (cap : Nat) (z : Nat) (a2 : Option Addr) (cap2 : Nat) (l2 : List Nat) (w : World) (ht : Tab w) (w0 : BaOk w b a cap) (wB : Row w a2 l2 ∧ l2.length ≤ cap2 ∧ l2.length ≤ maxLen ∧ (a2 = none → cap2 = 0)) (hc : chkB b = 0) (h3 : l2.length ≤ 3000) (hz : z ≤ 1125899906842624) :
    Calls Tryd.prog 7 #[bav b a cap, .int .i64 (z : Int), .slice a2 l2.length cap2] w fun e w' => e = .returned (.bool true) ∧ Below w.heap.size w w' := by
  obtain ⟨hr, hi, hl, hn, _⟩ := w0
  obtain ⟨m1, m2, m3, m5⟩ := wB
  have hlen := encB_len b
  have h6 := (chk_parts hc).2
  have HSM : Hid (∀ x, RRow x a b.rs → Calls Tryd.prog 11 #[.slice a b.rs.length cap] x fun e w' => IsB b.rs.length e ∧ Below x.heap.size x w') := fun x hx => small_any a cap b.rs x hx hl
  have HE : Hid (∀ x, Tab x → RRow x a b.rs → Calls Tryd.prog 13 #[bav b a cap] x fun e w' => ∃ g, e = .returned (.tuple #[.slice (some ⟨g, 0, none⟩) (encBL b).length (encBL b).length, .int .i64 0]) ∧ Own x.heap.size w' g (encBL b).length (encBL b) ∧ Below x.heap.size x w') := fun x h1 h2 => bencode_ok b a cap x h2 hi h1 hc
  have HA : Hid (∀ x, Tab x → Calls Tryd.prog 12 #[] x fun e w' => e = .returned (.bool true) ∧ Below x.heap.size x w') := fun x h => awake_any x h
  have hL48 : 48 ≤ (encBL b).length := by omega
  have hL60 : (encBL b).length ≤ 6000 := by omega
  have HLB : Hid (∀ i, (encBL b).getD i 0 < 256) := lt_mem (encB_mem (chk_parts hc).1)
  obtain ⟨o1, o2, o3⟩ := encB_ok (b := b) l2 hc hi
  have HDE : Hid (∀ x g c, Tab x → Row x (some g) (encBL b ++ l2) → (encBL b ++ l2).length ≤ c → c ≤ maxLen → Calls Tryd.prog 18 #[.slice (some g) (encBL b ++ l2).length c] x fun e w' => ∃ a' c', e = .returned (.tuple #[bav b a' c', .int .i64 ((encBL b).length : Nat), .int .i64 0]) ∧ RRow w' a' b.rs ∧ Below x.heap.size x w') := by
    intro x g c q1 q2 q3 q4
    refine (bdecode_any (some g) c (encBL b ++ l2) x q1 q2 q3 q4 (by rw [List.length_append]; omega)).mono ?_
    rintro e w' ⟨q, _, hb⟩
    obtain ⟨a', c', rfl, q5, _⟩ := q o1
    rw [o2] at q5
    exact ⟨a', c', by rw [o2, o3], q5, hb⟩
  have HSA : Hid (∀ x a' c' a2 c2, RRow x a' b.rs → RRow x a2 b.rs → Calls Tryd.prog 20 #[bav b a' c', bav b a2 c2] x fun e w' => e = .returned (.bool true) ∧ Below x.heap.size x w') := fun x a' c' a2 c2 q1 q2 => same_any b a' c' a2 c2 x q1 q2 hl
  have hzb : baseB (z : Int) = true := by unfold baseB; exact decide_eq_true (by omega)
  obtain ⟨p1, p2, p3⟩ := encB_ok (b := setB b (z : Int)) [] (setB_chk hc hzb) hi
  have hok : OkB (encBL b) ∧ lenN (encBL b) = (encBL b).length := by
    have q := encB_ok (b := b) [] hc hi
    rw [List.append_nil] at q
    exact ⟨q.1, q.2.2⟩
  rw [List.append_nil] at p1 p2 p3
  have HMV : Hid (∀ x g, Tab x → Own w.heap.size x g (encBL b).length (encBL b) → Calls Tryd.prog 21 #[.slice (some ⟨g, 0, none⟩) (encBL b).length (encBL b).length, .int .i64 (z : Int)] x fun e w' => ∃ g', e = .returned (.tuple #[.slice (some ⟨g', 0, none⟩) (encBL (setB b (z : Int))).length (encBL (setB b (z : Int))).length, .int .i64 0]) ∧ Own x.heap.size w' g' (encBL (setB b (z : Int))).length (encBL (setB b (z : Int))) ∧ Below x.heap.size x w') := by
    intro x g q1 q2
    have := move_ok (some ⟨g, 0, none⟩) (encBL b).length (encBL b) z x q1 (q2.row HLB.out) (Nat.le_refl _) (by unfold maxLen; omega) (by omega) hok.1 hok.2 hz
    rw [moved_enc] at this
    exact this
  have HD2 : Hid (∀ x g, Tab x → Own w.heap.size x g (encBL (setB b (z : Int))).length (encBL (setB b (z : Int))) → Calls Tryd.prog 18 #[.slice (some ⟨g, 0, none⟩) (encBL (setB b (z : Int))).length (encBL (setB b (z : Int))).length] x fun e w' => ∃ a' c', e = .returned (.tuple #[bav (setB b (z : Int)) a' c', .int .i64 ((encBL (setB b (z : Int))).length : Nat), .int .i64 0]) ∧ RRow w' a' b.rs ∧ Below x.heap.size x w') := by
    intro x g q1 q2
    have hle : (encBL (setB b (z : Int))).length = (encBL b).length := by rw [← moved_enc, movedL_len]
    refine (bdecode_any (some ⟨g, 0, none⟩) _ (encBL (setB b (z : Int))) x q1 (q2.row (lt_mem (encB_mem (setB_wr (chk_parts hc).1 hzb)))) (Nat.le_refl _) (by rw [hle]; unfold maxLen; omega) (by rw [hle]; omega)).mono ?_
    rintro e w' ⟨q, _, hb⟩
    obtain ⟨a', c', rfl, q5, _⟩ := q p1
    rw [p2] at q5
    exact ⟨a', c', by rw [p2, p3], q5, hb⟩
  have HS2 : Hid (∀ x a' c' a2 c2, RRow x a' b.rs → RRow x a2 b.rs → Calls Tryd.prog 20 #[bav (setB b (z : Int)) a' c', bav (setB b (z : Int)) a2 c2] x fun e w' => e = .returned (.bool true) ∧ Below x.heap.size x w') := fun x a' c' a2 c2 q1 q2 => same_any (setB b (z : Int)) a' c' a2 c2 x q1 q2 hl
  clear p1 p2 p3 hok hzb
  generalize encBL (setB b (z : Int)) = M2 at *
  obtain ⟨M, HM⟩ : ∃ M, Hid (encBL b ++ l2 = M) := ⟨_, rfl⟩
  have HML : Hid (M.length = (encBL b).length + l2.length) := by show _ = _; rw [← HM.out, List.length_append]
  have HMB : Hid (∀ i, M.getD i 0 < 256) := by rw [← HM.out]; exact app_lt HLB.out m1.lt
  rw [HM.out] at HDE
  clear o1 o2 o3 hlen h6 hc
  generalize encBL b = L at *
  obtain ⟨base, span, prod, seq, rs⟩ := b
  simp only [bav, setB] at *
  have HR0 : Hid (RRow w a rs) := hr
  have HT : Hid (Tab w) := ht
  have HR2 : Hid (Row w a2 l2) := m1
  clear hr ht m1
  have h3I : ¬ (3000 : Int) < (l2.length : Int) := by omega
  have h3d : decide ((3000 : Int) < (l2.length : Int)) = false := decide_eq_false h3I
  have hz0 : ¬ (z : Int) < 0 := by omega
  have hne : ((L.length : Int) != (L.length : Int)) = false := by simp
  have tok : True := trivial
  have HEM : Hid (∀ x : World, (x.alloc (.cells #[] 5)).ownsRow x.heap.size 5 1 (.slice (some ⟨x.heap.size, 0, none⟩) 0 0) 0 []) := fun x => ⟨rfl, .inr ⟨x.heap.size, 0, #[], rfl, Nat.le_refl _, heap_alloc_new x _, Nat.le_refl _, by unfold maxLen; omega, rfl, rfl⟩⟩
  go_enter Tryd.func7, Tryd.ntmps7
  go_wp2_with (first
    | (go_at_call 11; refine (HSM.out _ (RRow.below HR0.out (below_box _))).mono ?_; rintro e w1 ⟨⟨sm, rfl, hsm⟩, hb1⟩; have HB1 : Hid (BxS w (bcells ⟨base, span, prod, seq, rs⟩ a cap) w1) := BxS.below (BxS.new w _) hb1; obtain ⟨c0, c1, c2, c3, c4, cz⟩ := BxS.cells HB1.out; simp only at c0 c1 c2 c3 c4; clear hb1 hsm)
    | (go_at_call 12; have _t := HB1; refine (HA.out _ (Tab.below HT.out HB1.out.bel)).mono ?_; rintro e w9 ⟨rfl, hb9⟩; have HB9 : Hid (Below w.heap.size w w9) := HB1.out.bel.trans (hb9.mono HB1.out.bel.size))
    | (go_at_call 13; refine (HE.out _ (Tab.below HT.out HB1.out.bel) (RRow.below HR0.out HB1.out.bel)).mono ?_; rintro e w2 ⟨g, rfl, hown, hb2⟩; have HO2 : Hid (Own w.heap.size w2 g L.length L) := own_le hown HB1.out.bel.size; have HB2 : Hid (BxS w (bcells ⟨base, span, prod, seq, rs⟩ a cap) w2) := BxS.below HB1.out hb2; clear c0 c1 c2 c3 c4 cz HB1 hown hb2; obtain ⟨c0, c1, c2, c3, c4, cz⟩ := BxS.cells HB2.out; simp only at c0 c1 c2 c3 c4)
    | (at_builtin; have _t := tok; refine wpList_append_row (by rfl) _ _ rfl w2.heap.size w2 _ _ _ rfl (HEM.out w2) (below_box _) (by simp) (some ⟨g, 0, none⟩) L.length L rfl (Row.below (HO2.out.row HLB.out) (below_box _)) (fun c => by cases c) (by omega) ?_; clear tok _t; intro v3 w3 hown3 hb3; rw [Nat.zero_add, List.nil_append] at hown3)
    | (at_builtin; refine wpList_append_row (by rfl) _ _ rfl w2.heap.size w2 _ _ _ rfl hown3 hb3 hb3.size a2 cap2 l2 rfl (Row.below HR2.out (HB2.out.bel.trans (hb3.mono HB2.out.bel.size))) m5 (by omega) ?_; intro v4 w4 hown4 hb4; obtain ⟨g4, c4', rfl, ho4⟩ := app_some hown4 (by omega) HM.out.symm; have HB4 : Hid (BxS w (bcells ⟨base, span, prod, seq, rs⟩ a cap) w4) := BxS.below HB2.out hb4; have HO4 : Hid (Own w.heap.size w4 g L.length L) := Own.below HO2.out hb4; clear c0 c1 c2 c3 c4 cz hown3 hown4 hb3 hb4 HB2 HO2; obtain ⟨c0, c1, c2, c3, c4, cz⟩ := BxS.cells HB4.out; simp only at c0 c1 c2 c3 c4)
    | (go_at_call 18; have _t := ho4; refine (HDE.out _ _ _ (Tab.below HT.out HB4.out.bel) (ho4.row HMB.out) ho4.le.1 ho4.le.2).mono ?_; rintro e w5 ⟨a5, k5, rfl, hr5, hb5⟩; have HB5 : Hid (BxS w (bcells ⟨base, span, prod, seq, rs⟩ a cap) w5) := BxS.below HB4.out hb5; have HO5 : Hid (Own w.heap.size w5 g L.length L) := Own.below HO4.out hb5; have HR5 : Hid (RRow w5 a5 rs) := hr5; clear c0 c1 c2 c3 c4 cz ho4 _t hb5 HB4 HO4 hr5; obtain ⟨c0, c1, c2, c3, c4, cz⟩ := BxS.cells HB5.out; simp only at c0 c1 c2 c3 c4)
    | (go_at_call 20; have _t := HR5; refine (HSA.out _ _ _ _ _ (RRow.below HR0.out (HB5.out.bel.alloc HB5.out.bel.size _)) (RRow.below HR5.out (below_box _))).mono ?_; rintro e w6 ⟨rfl, hb6⟩; have HB6 : Hid (BxS w (bcells ⟨base, span, prod, seq, rs⟩ a cap) w6) := BxS.below (BxS.below HB5.out (below_box _)) hb6; have HO6 : Hid (Own w.heap.size w6 g L.length L) := Own.below (Own.below HO5.out (below_box _)) hb6; clear c0 c1 c2 c3 c4 cz hb6 HB5 HO5 HR5 _t; obtain ⟨c0, c1, c2, c3, c4, cz⟩ := BxS.cells HB6.out; simp only at c0 c1 c2 c3 c4)
    | (go_at_call 21; refine (HMV.out _ _ (Tab.below HT.out HB6.out.bel) HO6.out).mono ?_; rintro e w7 ⟨g7, rfl, ho7, hb7⟩; have HB7 : Hid (BxS w (bcells ⟨base, span, prod, seq, rs⟩ a cap) w7) := BxS.below HB6.out hb7; have HO7 : Hid (Own w.heap.size w7 g7 M2.length M2) := own_le ho7 HB6.out.bel.size; clear c0 c1 c2 c3 c4 cz HB6 HO6 ho7 hb7; obtain ⟨c0, c1, c2, c3, c4, cz⟩ := BxS.cells HB7.out; simp only at c0 c1 c2 c3 c4)
    | (go_at_call 18; refine (HD2.out _ _ (Tab.below HT.out HB7.out.bel) HO7.out).mono ?_; rintro e w8 ⟨a8, k8, rfl, hr8, hb8⟩; have HB8 : Hid (BxS w (bcells ⟨base, span, prod, seq, rs⟩ a cap) w8) := BxS.below HB7.out hb8; have HR8 : Hid (RRow w8 a8 rs) := hr8; clear c0 c1 c2 c3 c4 cz HB7 HO7 hb8 hr8; obtain ⟨c0, c1, c2, c3, c4, cz⟩ := BxS.cells HB8.out; simp only at c0 c1 c2 c3 c4; have cf := bx_free HB8.out; have HBS : Hid (BxS w (bcells ⟨(z : Int), span, prod, seq, rs⟩ a cap) ((World.setCell w8 ⟨w.heap.size, 0, none⟩ (.int .i64 (z : Int))).alloc (.cells #[.int .i64 (z : Int), .int .i64 span, .int .i64 prod, .int .i64 seq, .slice a8 rs.length k8] 24))) := BxS.below (bx_set HB8.out) (below_box _); have HRA : Hid (RRow ((World.setCell w8 ⟨w.heap.size, 0, none⟩ (.int .i64 (z : Int))).alloc (.cells #[.int .i64 (z : Int), .int .i64 span, .int .i64 prod, .int .i64 seq, .slice a8 rs.length k8] 24)) a8 rs) := RRow.below (rrow_apart HB8.out HR8.out) (below_box _); obtain ⟨y0, y1, y2, y3, y4, -⟩ := BxS.cells (bx_set (z := (z : Int)) HB8.out); simp only at y0 y1 y2 y3 y4; have e8 : ¬ w8.heap.size = w.heap.size := Nat.ne_of_gt cz; have e8' : ¬ w.heap.size = w8.heap.size := Nat.ne_of_lt cz)
    | (go_at_call 20; refine (HS2.out _ _ _ _ _ (RRow.below HR0.out HBS.out.bel) HRA.out).mono ?_; rintro e wa ⟨rfl, hba⟩; have HBa : Hid (Below w.heap.size w wa) := HBS.out.bel.trans (hba.mono HBS.out.bel.size); clear hba)
    | (go_at_call 12; refine (HA.out _ (Tab.below HT.out HBa.out)).mono ?_; rintro e w9 ⟨rfl, hb9⟩; have HB9 : Hid (Below w.heap.size w w9) := HBa.out.trans (hb9.mono HBa.out.size)))
  all_goals
    go_ret
    exact ⟨rfl, HB9.out⟩
set_option maxHeartbeats 3200000 in
set_option maxRecDepth 100000 in
theorem back_low (b : Ba) (a : Option Addr) (cap : Nat) (z : Int) (a2 : Option Addr) (cap2 : Nat) (l2 : List Nat) (w : World) (ht : Tab w) (w0 : BaOk w b a cap) (wB : Row w a2 l2 ∧ l2.length ≤ cap2 ∧ l2.length ≤ maxLen ∧ (a2 = none → cap2 = 0)) (hc : chkB b = 0) (h3 : l2.length ≤ 3000) (hz : z < 0) :
    Calls Tryd.prog 7 #[bav b a cap, .int .i64 z, .slice a2 l2.length cap2] w fun e w' => e = .returned (.bool true) ∧ Below w.heap.size w w' := by
  obtain ⟨hr, hi, hl, hn, _⟩ := w0
  obtain ⟨m1, m2, m3, m5⟩ := wB
  have hlen := encB_len b
  have h6 := (chk_parts hc).2
  have HSM : Hid (∀ x, RRow x a b.rs → Calls Tryd.prog 11 #[.slice a b.rs.length cap] x fun e w' => IsB b.rs.length e ∧ Below x.heap.size x w') := fun x hx => small_any a cap b.rs x hx hl
  have HE : Hid (∀ x, Tab x → RRow x a b.rs → Calls Tryd.prog 13 #[bav b a cap] x fun e w' => ∃ g, e = .returned (.tuple #[.slice (some ⟨g, 0, none⟩) (encBL b).length (encBL b).length, .int .i64 0]) ∧ Own x.heap.size w' g (encBL b).length (encBL b) ∧ Below x.heap.size x w') := fun x h1 h2 => bencode_ok b a cap x h2 hi h1 hc
  have HA : Hid (∀ x, Tab x → Calls Tryd.prog 12 #[] x fun e w' => e = .returned (.bool true) ∧ Below x.heap.size x w') := fun x h => awake_any x h
  have hL48 : 48 ≤ (encBL b).length := by omega
  have hL60 : (encBL b).length ≤ 6000 := by omega
  have HLB : Hid (∀ i, (encBL b).getD i 0 < 256) := lt_mem (encB_mem (chk_parts hc).1)
  obtain ⟨o1, o2, o3⟩ := encB_ok (b := b) l2 hc hi
  have HDE : Hid (∀ x g c, Tab x → Row x (some g) (encBL b ++ l2) → (encBL b ++ l2).length ≤ c → c ≤ maxLen → Calls Tryd.prog 18 #[.slice (some g) (encBL b ++ l2).length c] x fun e w' => ∃ a' c', e = .returned (.tuple #[bav b a' c', .int .i64 ((encBL b).length : Nat), .int .i64 0]) ∧ RRow w' a' b.rs ∧ Below x.heap.size x w') := by
    intro x g c q1 q2 q3 q4
    refine (bdecode_any (some g) c (encBL b ++ l2) x q1 q2 q3 q4 (by rw [List.length_append]; omega)).mono ?_
    rintro e w' ⟨q, _, hb⟩
    obtain ⟨a', c', rfl, q5, _⟩ := q o1
    rw [o2] at q5
    exact ⟨a', c', by rw [o2, o3], q5, hb⟩
  have HSA : Hid (∀ x a' c' a2 c2, RRow x a' b.rs → RRow x a2 b.rs → Calls Tryd.prog 20 #[bav b a' c', bav b a2 c2] x fun e w' => e = .returned (.bool true) ∧ Below x.heap.size x w') := fun x a' c' a2 c2 q1 q2 => same_any b a' c' a2 c2 x q1 q2 hl
  have hok : OkB (encBL b) ∧ lenN (encBL b) = (encBL b).length := by
    have q := encB_ok (b := b) [] hc hi
    rw [List.append_nil] at q
    exact ⟨q.1, q.2.2⟩
  have HMV : Hid (∀ x g, Tab x → Own w.heap.size x g (encBL b).length (encBL b) → Calls Tryd.prog 21 #[.slice (some ⟨g, 0, none⟩) (encBL b).length (encBL b).length, .int .i64 z] x fun e w' => e = .returned (.tuple #[.slice none 0 0, .int .i64 1]) ∧ Below x.heap.size x w') := by
    intro x g q1 q2
    exact move_arg (some ⟨g, 0, none⟩) (encBL b).length (encBL b) z x q1 (q2.row HLB.out) (Nat.le_refl _) (by unfold maxLen; omega) (by omega) hok.1 hok.2 (by unfold baseB; exact decide_eq_false (by omega))
  clear hok
  obtain ⟨M, HM⟩ : ∃ M, Hid (encBL b ++ l2 = M) := ⟨_, rfl⟩
  have HML : Hid (M.length = (encBL b).length + l2.length) := by show _ = _; rw [← HM.out, List.length_append]
  have HMB : Hid (∀ i, M.getD i 0 < 256) := by rw [← HM.out]; exact app_lt HLB.out m1.lt
  rw [HM.out] at HDE
  clear o1 o2 o3 hlen h6 hc
  generalize encBL b = L at *
  obtain ⟨base, span, prod, seq, rs⟩ := b
  simp only [bav, setB] at *
  have HR0 : Hid (RRow w a rs) := hr
  have HT : Hid (Tab w) := ht
  have HR2 : Hid (Row w a2 l2) := m1
  clear hr ht m1
  have h3I : ¬ (3000 : Int) < (l2.length : Int) := by omega
  have h3d : decide ((3000 : Int) < (l2.length : Int)) = false := decide_eq_false h3I
  have hz0 : decide (z < 0) = true := decide_eq_true hz
  have hne : ((L.length : Int) != (L.length : Int)) = false := by simp
  have tok : True := trivial
  have HEM : Hid (∀ x : World, (x.alloc (.cells #[] 5)).ownsRow x.heap.size 5 1 (.slice (some ⟨x.heap.size, 0, none⟩) 0 0) 0 []) := fun x => ⟨rfl, .inr ⟨x.heap.size, 0, #[], rfl, Nat.le_refl _, heap_alloc_new x _, Nat.le_refl _, by unfold maxLen; omega, rfl, rfl⟩⟩
  go_enter Tryd.func7, Tryd.ntmps7
  go_wp2_with (first
    | (go_at_call 11; refine (HSM.out _ (RRow.below HR0.out (below_box _))).mono ?_; rintro e w1 ⟨⟨sm, rfl, hsm⟩, hb1⟩; have HB1 : Hid (BxS w (bcells ⟨base, span, prod, seq, rs⟩ a cap) w1) := BxS.below (BxS.new w _) hb1; obtain ⟨c0, c1, c2, c3, c4, cz⟩ := BxS.cells HB1.out; simp only at c0 c1 c2 c3 c4; clear hb1 hsm)
    | (go_at_call 12; have _t := HB1; refine (HA.out _ (Tab.below HT.out HB1.out.bel)).mono ?_; rintro e w9 ⟨rfl, hb9⟩; have HB9 : Hid (Below w.heap.size w w9) := HB1.out.bel.trans (hb9.mono HB1.out.bel.size))
    | (go_at_call 13; refine (HE.out _ (Tab.below HT.out HB1.out.bel) (RRow.below HR0.out HB1.out.bel)).mono ?_; rintro e w2 ⟨g, rfl, hown, hb2⟩; have HO2 : Hid (Own w.heap.size w2 g L.length L) := own_le hown HB1.out.bel.size; have HB2 : Hid (BxS w (bcells ⟨base, span, prod, seq, rs⟩ a cap) w2) := BxS.below HB1.out hb2; clear c0 c1 c2 c3 c4 cz HB1 hown hb2; obtain ⟨c0, c1, c2, c3, c4, cz⟩ := BxS.cells HB2.out; simp only at c0 c1 c2 c3 c4)
    | (at_builtin; have _t := tok; refine wpList_append_row (by rfl) _ _ rfl w2.heap.size w2 _ _ _ rfl (HEM.out w2) (below_box _) (by simp) (some ⟨g, 0, none⟩) L.length L rfl (Row.below (HO2.out.row HLB.out) (below_box _)) (fun c => by cases c) (by omega) ?_; clear tok _t; intro v3 w3 hown3 hb3; rw [Nat.zero_add, List.nil_append] at hown3)
    | (at_builtin; refine wpList_append_row (by rfl) _ _ rfl w2.heap.size w2 _ _ _ rfl hown3 hb3 hb3.size a2 cap2 l2 rfl (Row.below HR2.out (HB2.out.bel.trans (hb3.mono HB2.out.bel.size))) m5 (by omega) ?_; intro v4 w4 hown4 hb4; obtain ⟨g4, c4', rfl, ho4⟩ := app_some hown4 (by omega) HM.out.symm; have HB4 : Hid (BxS w (bcells ⟨base, span, prod, seq, rs⟩ a cap) w4) := BxS.below HB2.out hb4; have HO4 : Hid (Own w.heap.size w4 g L.length L) := Own.below HO2.out hb4; clear c0 c1 c2 c3 c4 cz hown3 hown4 hb3 hb4 HB2 HO2; obtain ⟨c0, c1, c2, c3, c4, cz⟩ := BxS.cells HB4.out; simp only at c0 c1 c2 c3 c4)
    | (go_at_call 18; have _t := ho4; refine (HDE.out _ _ _ (Tab.below HT.out HB4.out.bel) (ho4.row HMB.out) ho4.le.1 ho4.le.2).mono ?_; rintro e w5 ⟨a5, k5, rfl, hr5, hb5⟩; have HB5 : Hid (BxS w (bcells ⟨base, span, prod, seq, rs⟩ a cap) w5) := BxS.below HB4.out hb5; have HO5 : Hid (Own w.heap.size w5 g L.length L) := Own.below HO4.out hb5; have HR5 : Hid (RRow w5 a5 rs) := hr5; clear c0 c1 c2 c3 c4 cz ho4 _t hb5 HB4 HO4 hr5; obtain ⟨c0, c1, c2, c3, c4, cz⟩ := BxS.cells HB5.out; simp only at c0 c1 c2 c3 c4)
    | (go_at_call 20; have _t := HR5; refine (HSA.out _ _ _ _ _ (RRow.below HR0.out (HB5.out.bel.alloc HB5.out.bel.size _)) (RRow.below HR5.out (below_box _))).mono ?_; rintro e w6 ⟨rfl, hb6⟩; have HB6 : Hid (BxS w (bcells ⟨base, span, prod, seq, rs⟩ a cap) w6) := BxS.below (BxS.below HB5.out (below_box _)) hb6; have HO6 : Hid (Own w.heap.size w6 g L.length L) := Own.below (Own.below HO5.out (below_box _)) hb6; clear c0 c1 c2 c3 c4 cz hb6 HB5 HO5 HR5 _t; obtain ⟨c0, c1, c2, c3, c4, cz⟩ := BxS.cells HB6.out; simp only at c0 c1 c2 c3 c4)
    | (go_at_call 21; refine (HMV.out _ _ (Tab.below HT.out HB6.out.bel) HO6.out).mono ?_; rintro e w7 ⟨rfl, hb7⟩; have HB7 : Hid (Below w.heap.size w w7) := HB6.out.bel.trans (hb7.mono HB6.out.bel.size); clear c0 c1 c2 c3 c4 cz HB6 HO6 hb7)
    | (go_at_call 12; refine (HA.out _ (Tab.below HT.out HB7.out)).mono ?_; rintro e w9 ⟨rfl, hb9⟩; have HB9 : Hid (Below w.heap.size w w9) := HB7.out.trans (hb9.mono HB7.out.size)))
  all_goals
    go_ret
    exact ⟨rfl, HB9.out⟩
set_option maxHeartbeats 3200000 in
set_option maxRecDepth 100000 in
theorem back_high (b : Ba) (a : Option Addr) (cap : Nat) (z : Int) (a2 : Option Addr) (cap2 : Nat) (l2 : List Nat) (w : World) (ht : Tab w) (w0 : BaOk w b a cap) (wB : Row w a2 l2 ∧ l2.length ≤ cap2 ∧ l2.length ≤ maxLen ∧ (a2 = none → cap2 = 0)) (hc : chkB b = 0) (h3 : l2.length ≤ 3000) (hz : 1125899906842624 < z) :
    Calls Tryd.prog 7 #[bav b a cap, .int .i64 z, .slice a2 l2.length cap2] w fun e w' => e = .returned (.bool true) ∧ Below w.heap.size w w' := by
  obtain ⟨hr, hi, hl, hn, _⟩ := w0
  obtain ⟨m1, m2, m3, m5⟩ := wB
  have hlen := encB_len b
  have h6 := (chk_parts hc).2
  have HSM : Hid (∀ x, RRow x a b.rs → Calls Tryd.prog 11 #[.slice a b.rs.length cap] x fun e w' => IsB b.rs.length e ∧ Below x.heap.size x w') := fun x hx => small_any a cap b.rs x hx hl
  have HE : Hid (∀ x, Tab x → RRow x a b.rs → Calls Tryd.prog 13 #[bav b a cap] x fun e w' => ∃ g, e = .returned (.tuple #[.slice (some ⟨g, 0, none⟩) (encBL b).length (encBL b).length, .int .i64 0]) ∧ Own x.heap.size w' g (encBL b).length (encBL b) ∧ Below x.heap.size x w') := fun x h1 h2 => bencode_ok b a cap x h2 hi h1 hc
  have HA : Hid (∀ x, Tab x → Calls Tryd.prog 12 #[] x fun e w' => e = .returned (.bool true) ∧ Below x.heap.size x w') := fun x h => awake_any x h
  have hL48 : 48 ≤ (encBL b).length := by omega
  have hL60 : (encBL b).length ≤ 6000 := by omega
  have HLB : Hid (∀ i, (encBL b).getD i 0 < 256) := lt_mem (encB_mem (chk_parts hc).1)
  obtain ⟨o1, o2, o3⟩ := encB_ok (b := b) l2 hc hi
  have HDE : Hid (∀ x g c, Tab x → Row x (some g) (encBL b ++ l2) → (encBL b ++ l2).length ≤ c → c ≤ maxLen → Calls Tryd.prog 18 #[.slice (some g) (encBL b ++ l2).length c] x fun e w' => ∃ a' c', e = .returned (.tuple #[bav b a' c', .int .i64 ((encBL b).length : Nat), .int .i64 0]) ∧ RRow w' a' b.rs ∧ Below x.heap.size x w') := by
    intro x g c q1 q2 q3 q4
    refine (bdecode_any (some g) c (encBL b ++ l2) x q1 q2 q3 q4 (by rw [List.length_append]; omega)).mono ?_
    rintro e w' ⟨q, _, hb⟩
    obtain ⟨a', c', rfl, q5, _⟩ := q o1
    rw [o2] at q5
    exact ⟨a', c', by rw [o2, o3], q5, hb⟩
  have HSA : Hid (∀ x a' c' a2 c2, RRow x a' b.rs → RRow x a2 b.rs → Calls Tryd.prog 20 #[bav b a' c', bav b a2 c2] x fun e w' => e = .returned (.bool true) ∧ Below x.heap.size x w') := fun x a' c' a2 c2 q1 q2 => same_any b a' c' a2 c2 x q1 q2 hl
  have hok : OkB (encBL b) ∧ lenN (encBL b) = (encBL b).length := by
    have q := encB_ok (b := b) [] hc hi
    rw [List.append_nil] at q
    exact ⟨q.1, q.2.2⟩
  have HMV : Hid (∀ x g, Tab x → Own w.heap.size x g (encBL b).length (encBL b) → Calls Tryd.prog 21 #[.slice (some ⟨g, 0, none⟩) (encBL b).length (encBL b).length, .int .i64 z] x fun e w' => e = .returned (.tuple #[.slice none 0 0, .int .i64 1]) ∧ Below x.heap.size x w') := by
    intro x g q1 q2
    exact move_arg (some ⟨g, 0, none⟩) (encBL b).length (encBL b) z x q1 (q2.row HLB.out) (Nat.le_refl _) (by unfold maxLen; omega) (by omega) hok.1 hok.2 (by unfold baseB; exact decide_eq_false (by omega))
  clear hok
  obtain ⟨M, HM⟩ : ∃ M, Hid (encBL b ++ l2 = M) := ⟨_, rfl⟩
  have HML : Hid (M.length = (encBL b).length + l2.length) := by show _ = _; rw [← HM.out, List.length_append]
  have HMB : Hid (∀ i, M.getD i 0 < 256) := by rw [← HM.out]; exact app_lt HLB.out m1.lt
  rw [HM.out] at HDE
  clear o1 o2 o3 hlen h6 hc
  generalize encBL b = L at *
  obtain ⟨base, span, prod, seq, rs⟩ := b
  simp only [bav, setB] at *
  have HR0 : Hid (RRow w a rs) := hr
  have HT : Hid (Tab w) := ht
  have HR2 : Hid (Row w a2 l2) := m1
  clear hr ht m1
  have h3I : ¬ (3000 : Int) < (l2.length : Int) := by omega
  have h3d : decide ((3000 : Int) < (l2.length : Int)) = false := decide_eq_false h3I
  have hz0 : decide (z < 0) = false := decide_eq_false (by omega)
  have hz1 : decide (1125899906842624 < z) = true := decide_eq_true hz
  have hne : ((L.length : Int) != (L.length : Int)) = false := by simp
  have tok : True := trivial
  have HEM : Hid (∀ x : World, (x.alloc (.cells #[] 5)).ownsRow x.heap.size 5 1 (.slice (some ⟨x.heap.size, 0, none⟩) 0 0) 0 []) := fun x => ⟨rfl, .inr ⟨x.heap.size, 0, #[], rfl, Nat.le_refl _, heap_alloc_new x _, Nat.le_refl _, by unfold maxLen; omega, rfl, rfl⟩⟩
  go_enter Tryd.func7, Tryd.ntmps7
  go_wp2_with (first
    | (go_at_call 11; refine (HSM.out _ (RRow.below HR0.out (below_box _))).mono ?_; rintro e w1 ⟨⟨sm, rfl, hsm⟩, hb1⟩; have HB1 : Hid (BxS w (bcells ⟨base, span, prod, seq, rs⟩ a cap) w1) := BxS.below (BxS.new w _) hb1; obtain ⟨c0, c1, c2, c3, c4, cz⟩ := BxS.cells HB1.out; simp only at c0 c1 c2 c3 c4; clear hb1 hsm)
    | (go_at_call 12; have _t := HB1; refine (HA.out _ (Tab.below HT.out HB1.out.bel)).mono ?_; rintro e w9 ⟨rfl, hb9⟩; have HB9 : Hid (Below w.heap.size w w9) := HB1.out.bel.trans (hb9.mono HB1.out.bel.size))
    | (go_at_call 13; refine (HE.out _ (Tab.below HT.out HB1.out.bel) (RRow.below HR0.out HB1.out.bel)).mono ?_; rintro e w2 ⟨g, rfl, hown, hb2⟩; have HO2 : Hid (Own w.heap.size w2 g L.length L) := own_le hown HB1.out.bel.size; have HB2 : Hid (BxS w (bcells ⟨base, span, prod, seq, rs⟩ a cap) w2) := BxS.below HB1.out hb2; clear c0 c1 c2 c3 c4 cz HB1 hown hb2; obtain ⟨c0, c1, c2, c3, c4, cz⟩ := BxS.cells HB2.out; simp only at c0 c1 c2 c3 c4)
    | (at_builtin; have _t := tok; refine wpList_append_row (by rfl) _ _ rfl w2.heap.size w2 _ _ _ rfl (HEM.out w2) (below_box _) (by simp) (some ⟨g, 0, none⟩) L.length L rfl (Row.below (HO2.out.row HLB.out) (below_box _)) (fun c => by cases c) (by omega) ?_; clear tok _t; intro v3 w3 hown3 hb3; rw [Nat.zero_add, List.nil_append] at hown3)
    | (at_builtin; refine wpList_append_row (by rfl) _ _ rfl w2.heap.size w2 _ _ _ rfl hown3 hb3 hb3.size a2 cap2 l2 rfl (Row.below HR2.out (HB2.out.bel.trans (hb3.mono HB2.out.bel.size))) m5 (by omega) ?_; intro v4 w4 hown4 hb4; obtain ⟨g4, c4', rfl, ho4⟩ := app_some hown4 (by omega) HM.out.symm; have HB4 : Hid (BxS w (bcells ⟨base, span, prod, seq, rs⟩ a cap) w4) := BxS.below HB2.out hb4; have HO4 : Hid (Own w.heap.size w4 g L.length L) := Own.below HO2.out hb4; clear c0 c1 c2 c3 c4 cz hown3 hown4 hb3 hb4 HB2 HO2; obtain ⟨c0, c1, c2, c3, c4, cz⟩ := BxS.cells HB4.out; simp only at c0 c1 c2 c3 c4)
    | (go_at_call 18; have _t := ho4; refine (HDE.out _ _ _ (Tab.below HT.out HB4.out.bel) (ho4.row HMB.out) ho4.le.1 ho4.le.2).mono ?_; rintro e w5 ⟨a5, k5, rfl, hr5, hb5⟩; have HB5 : Hid (BxS w (bcells ⟨base, span, prod, seq, rs⟩ a cap) w5) := BxS.below HB4.out hb5; have HO5 : Hid (Own w.heap.size w5 g L.length L) := Own.below HO4.out hb5; have HR5 : Hid (RRow w5 a5 rs) := hr5; clear c0 c1 c2 c3 c4 cz ho4 _t hb5 HB4 HO4 hr5; obtain ⟨c0, c1, c2, c3, c4, cz⟩ := BxS.cells HB5.out; simp only at c0 c1 c2 c3 c4)
    | (go_at_call 20; have _t := HR5; refine (HSA.out _ _ _ _ _ (RRow.below HR0.out (HB5.out.bel.alloc HB5.out.bel.size _)) (RRow.below HR5.out (below_box _))).mono ?_; rintro e w6 ⟨rfl, hb6⟩; have HB6 : Hid (BxS w (bcells ⟨base, span, prod, seq, rs⟩ a cap) w6) := BxS.below (BxS.below HB5.out (below_box _)) hb6; have HO6 : Hid (Own w.heap.size w6 g L.length L) := Own.below (Own.below HO5.out (below_box _)) hb6; clear c0 c1 c2 c3 c4 cz hb6 HB5 HO5 HR5 _t; obtain ⟨c0, c1, c2, c3, c4, cz⟩ := BxS.cells HB6.out; simp only at c0 c1 c2 c3 c4)
    | (go_at_call 21; refine (HMV.out _ _ (Tab.below HT.out HB6.out.bel) HO6.out).mono ?_; rintro e w7 ⟨rfl, hb7⟩; have HB7 : Hid (Below w.heap.size w w7) := HB6.out.bel.trans (hb7.mono HB6.out.bel.size); clear c0 c1 c2 c3 c4 cz HB6 HO6 hb7)
    | (go_at_call 12; refine (HA.out _ (Tab.below HT.out HB7.out)).mono ?_; rintro e w9 ⟨rfl, hb9⟩; have HB9 : Hid (Below w.heap.size w w9) := HB7.out.trans (hb9.mono HB7.out.size)))
  all_goals
    go_ret
    exact ⟨rfl, HB9.out⟩
set_option maxHeartbeats 800000 in
set_option maxRecDepth 100000 in
theorem back_long (b : Ba) (a : Option Addr) (cap : Nat) (z : Int) (a2 : Option Addr) (cap2 : Nat) (l2 : List Nat) (w : World) (ht : Tab w) (w0 : BaOk w b a cap) (wB : Row w a2 l2 ∧ l2.length ≤ cap2 ∧ l2.length ≤ maxLen ∧ (a2 = none → cap2 = 0)) (hc : 3000 < l2.length) :
    Calls Tryd.prog 7 #[bav b a cap, .int .i64 z, .slice a2 l2.length cap2] w fun e w' => e = .returned (.bool true) ∧ Below w.heap.size w w' := by
  obtain ⟨hr, hi, hl, hn, _⟩ := w0
  obtain ⟨m1, m2, m3, m5⟩ := wB
  have HSM : Hid (∀ x, RRow x a b.rs → Calls Tryd.prog 11 #[.slice a b.rs.length cap] x fun e w' => IsB b.rs.length e ∧ Below x.heap.size x w') := fun x hx => small_any a cap b.rs x hx hl
  have HA : Hid (∀ x, Tab x → Calls Tryd.prog 12 #[] x fun e w' => e = .returned (.bool true) ∧ Below x.heap.size x w') := fun x h => awake_any x h
  obtain ⟨base, span, prod, seq, rs⟩ := b
  simp only [bav] at *
  have HR0 : Hid (RRow w a rs) := hr
  have HT : Hid (Tab w) := ht
  clear hr ht m1
  have h3I : (3000 : Int) < (l2.length : Int) := by omega
  have h3d : decide ((3000 : Int) < (l2.length : Int)) = true := decide_eq_true h3I
  go_enter Tryd.func7, Tryd.ntmps7
  go_wp2_with (first
    | (go_at_call 11; refine (HSM.out _ (RRow.below HR0.out (below_box _))).mono ?_; rintro e w1 ⟨⟨sm, rfl, hsm⟩, hb1⟩; have HB1 : Hid (BxS w (bcells ⟨base, span, prod, seq, rs⟩ a cap) w1) := BxS.below (BxS.new w _) hb1; obtain ⟨c0, c1, c2, c3, c4, cz⟩ := BxS.cells HB1.out; simp only at c0 c1 c2 c3 c4; clear hb1 hsm)
    | (go_at_call 12; have _t := HB1; refine (HA.out _ (Tab.below HT.out HB1.out.bel)).mono ?_; rintro e w9 ⟨rfl, hb9⟩; have HB9 : Hid (Below w.heap.size w w9) := HB1.out.bel.trans (hb9.mono HB1.out.bel.size)))
  all_goals
    go_ret
    exact ⟨rfl, HB9.out⟩
set_option maxHeartbeats 800000 in
set_option maxRecDepth 100000 in
theorem back_no (b : Ba) (a : Option Addr) (cap : Nat) (z : Int) (a2 : Option Addr) (cap2 : Nat) (l2 : List Nat) (w : World) (ht : Tab w) (w0 : BaOk w b a cap) (wB : Row w a2 l2 ∧ l2.length ≤ cap2 ∧ l2.length ≤ maxLen ∧ (a2 = none → cap2 = 0)) (hc : chkB b ≠ 0 ∧ l2.length ≤ 3000) :
    Calls Tryd.prog 7 #[bav b a cap, .int .i64 z, .slice a2 l2.length cap2] w fun e w' => e = .returned (.bool true) ∧ Below w.heap.size w w' := by
  obtain ⟨hr, hi, hl, hn, _⟩ := w0
  obtain ⟨m1, m2, m3, m5⟩ := wB
  have HSM : Hid (∀ x, RRow x a b.rs → Calls Tryd.prog 11 #[.slice a b.rs.length cap] x fun e w' => IsB b.rs.length e ∧ Below x.heap.size x w') := fun x hx => small_any a cap b.rs x hx hl
  have HA : Hid (∀ x, Tab x → Calls Tryd.prog 12 #[] x fun e w' => e = .returned (.bool true) ∧ Below x.heap.size x w') := fun x h => awake_any x h
  obtain ⟨hc, h3⟩ := hc
  have HE := bencode_any b a cap hi hl
  unfold BEnc at HE
  rw [show encBR b = [] by unfold encBR; rw [if_neg hc]] at HE
  have HE1 : Hid _ := HE
  clear HE
  have hne : (chkB b != 0) = true := by rw [bne_iff_ne]; exact hc
  generalize chkB b = ck at *
  obtain ⟨base, span, prod, seq, rs⟩ := b
  simp only [bav] at *
  have HR0 : Hid (RRow w a rs) := hr
  have HT : Hid (Tab w) := ht
  clear hr ht m1
  clear hc
  have h3I : ¬ (3000 : Int) < (l2.length : Int) := by omega
  have h3d : decide ((3000 : Int) < (l2.length : Int)) = false := decide_eq_false h3I
  go_enter Tryd.func7, Tryd.ntmps7
  go_wp2_with (first
    | (go_at_call 11; refine (HSM.out _ (RRow.below HR0.out (below_box _))).mono ?_; rintro e w1 ⟨⟨sm, rfl, hsm⟩, hb1⟩; have HB1 : Hid (BxS w (bcells ⟨base, span, prod, seq, rs⟩ a cap) w1) := BxS.below (BxS.new w _) hb1; obtain ⟨c0, c1, c2, c3, c4, cz⟩ := BxS.cells HB1.out; simp only at c0 c1 c2 c3 c4; clear hb1 hsm)
    | (go_at_call 13; refine (HE1.out _ (Tab.below HT.out HB1.out.bel) (RRow.below HR0.out HB1.out.bel)).mono ?_; rintro e w2 ⟨v2, rfl, hown2, hb2⟩; obtain ⟨a2', k2, rfl, _, _⟩ := owns_sl hown2 (by simp); have HB2 : Hid (Below w.heap.size w w2) := HB1.out.bel.trans (hb2.mono HB1.out.bel.size); clear HB1 c0 c1 c2 c3 c4 cz hown2 hb2)
    | (go_at_call 12; have _t := HB1; refine (HA.out _ (Tab.below HT.out HB1.out.bel)).mono ?_; rintro e w9 ⟨rfl, hb9⟩; have HB9 : Hid (Below w.heap.size w w9) := HB1.out.bel.trans (hb9.mono HB1.out.bel.size))
    | (go_at_call 12; refine (HA.out _ (Tab.below HT.out HB2.out)).mono ?_; rintro e w9 ⟨rfl, hb9⟩; have HB9 : Hid (Below w.heap.size w w9) := HB2.out.trans (hb9.mono HB2.out.size)))
  all_goals
    go_ret
    exact ⟨rfl, HB9.out⟩
theorem batchBack_walk (b0 : Ba) (a0 : Option Addr) (cap0 : Nat) (a1 : Int) (a2 : Option Addr) (cap2 : Nat) (l2 : List Nat) (w : World) (ht : Tab w) (w0 : BaOk w b0 a0 cap0) (w1 : (Lit.int .i64 a1).wf = true) (w2 : Row w a2 l2) (m2 : l2.length ≤ maxLen) (c2 : l2.length ≤ cap2) (n2 : a2 = none → cap2 = 0) :
    Calls Tryd.prog 7 #[bav b0 a0 cap0, .int .i64 a1, .slice a2 l2.length cap2] w fun e w' => e = .returned (.bool true) ∧ Below w.heap.size w w' := by
  by_cases h3 : 3000 < l2.length
  · exact back_long b0 a0 cap0 a1 a2 cap2 l2 w ht w0 ⟨w2, c2, m2, n2⟩ h3
  by_cases hc : chkB b0 = 0
  · by_cases hz : a1 < 0
    · exact back_low b0 a0 cap0 a1 a2 cap2 l2 w ht w0 ⟨w2, c2, m2, n2⟩ hc (by omega) hz
    by_cases hz2 : 1125899906842624 < a1
    · exact back_high b0 a0 cap0 a1 a2 cap2 l2 w ht w0 ⟨w2, c2, m2, n2⟩ hc (by omega) hz2
    obtain ⟨z, rfl⟩ := Int.eq_ofNat_of_zero_le (show 0 ≤ a1 by omega)
    exact back_good b0 a0 cap0 z a2 cap2 l2 w ht w0 ⟨w2, c2, m2, n2⟩ hc (by omega) (by omega)
  · exact back_no b0 a0 cap0 a1 a2 cap2 l2 w ht w0 ⟨w2, c2, m2, n2⟩ ⟨hc, by omega⟩
end Go.Proofs.YtgpeldmplkijlaaDoor
