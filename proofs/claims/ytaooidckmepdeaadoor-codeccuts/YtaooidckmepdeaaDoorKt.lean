/- The reader: a row of batches. -/
import Derived.Test.YtaooidckmepdeaaDoorKr
namespace Go.Proofs.YtaooidckmepdeaaDoor
set_option linter.unusedSimpArgs false
set_option linter.unusedVariables false
open Go.RowKit
theorem wpList_append_at {w : World} {ops : Array Oper} {rest : List Oper} {o : Oper} {a : Act} {Q : Exit → Act → World → Prop} (hw : Region.wanted o (yielded ops a.tmps) = true) (s x : Operand) (t e : TypeId)
    (ho : o.op = .call { callee := .builtin .append, args := #[s, x], argTypes := #[t, t] }) (z : Value) (size bytes : Nat) (ht : Tryd.prog.underlying t = some (.slice e)) (hi : (Tryd.prog.info? e).map (fun i => (i.zero, i.size, i.bytes)) = some (some z, size, bytes))
    (hzs : z.cells.size = size) (hpos : 0 < size) (hby : bytes ≤ 100) (B : Nat) (v : Value) (n : Nat) (xs : List Value) (hs : a.eval s = v) (hown : w.ownsRow B e size v n xs) (hBs : B ≤ w.heap.size)
    (g : Nat) (news : List Value) (hx : a.eval x = .slice (some ⟨g, 0, none⟩) 1 1) (hl : news.length = size) (hg : w.heap[g]? = some (.cells news.toArray e (0, 0))) (hone : ∀ u ∈ news, u.oneCell' = true) (hn : n ≤ 1000000)
    (h : ∀ v' w', w'.ownsRow B e size v' (n + 1) (xs ++ news) → w.grownBy w' v.ownBlock → (v'.ownBlock = v.ownBlock ∨ ∀ x, v'.ownBlock = some x → w.heap.size ≤ x) → wpList Tryd.prog ops Q rest (a.put o.dst v') w') : wpList Tryd.prog ops Q (o :: rest) a w := by
  obtain ⟨i0, hi, hz0, hz1, hz2⟩ := info_parts hi
  have hnews : ∀ j u, news[j]? = some u → w.cell? ((⟨g, 0, none⟩ : Addr).add j) = some u := by
    intro j u hj
    rw [Addr.add_lit, cell_of_row _ g (0 + j) news.toArray e (0, 0) hg]
    simpa using hj
  have hb2 : (n + 1) * bytes ≤ 140737488355328 := by
    have : (n + 1) * bytes ≤ 1000001 * 100 := Nat.mul_le_mul (by omega) hby
    omega
  refine BigFrame.wpList_want hw fun K hK => ?_
  obtain ⟨v', w', hr1, h2, h3, h4⟩ := run_append_own (P := Tryd.prog) w B t o.type e i0 z size bytes ht hi hz0 hz1 hz2 hzs hpos v n xs hown ⟨g, 0, none⟩ 1 1 news (by omega) hnews hone (by unfold maxLen; omega) hb2 hBs
  have h5 : v'.ownBlock = v.ownBlock ∨ ∀ x, v'.ownBlock = some x → w.heap.size ≤ x := by
    rcases hown.2 with ⟨rfl, h0⟩ | ⟨gg, cp, cur, rfl, _, hgg, hle, hm, _, _⟩
    · have hx0 : xs = [] := List.eq_nil_of_length_eq_zero (by rw [hown.1, h0, Nat.zero_mul])
      subst hx0
      subst h0
      obtain ⟨v2, w2, hr2, h22, _, _⟩ := run_append_own (P := Tryd.prog) w w.heap.size t o.type e i0 z size bytes ht hi hz0 hz1 hz2 hzs hpos (.slice none 0 0) 0 [] (World.ownsRow_nil _ _ _ _) ⟨g, 0, none⟩ 1 1 news (by omega) hnews hone (by unfold maxLen; omega) hb2 (Nat.le_refl _)
      rw [hr2] at hr1
      injection hr1 with e1 e2
      subst e1
      exact .inr (fun x hx => (h22.lt x hx).1)
    · by_cases hroom : n + 1 ≤ cp
      · obtain ⟨w2, hr2, _, _⟩ := run_append_fits (P := Tryd.prog) w B t o.type e i0 size ht hi hz1 gg n cp xs hown ⟨g, 0, none⟩ 1 1 news (by omega) hnews hone hroom
        rw [hr2] at hr1
        injection hr1 with e1 e2
        subst e1
        exact .inl rfl
      · have holds : ∀ j u, xs[j]? = some u → w.cell? ((⟨gg, 0, none⟩ : Addr).add j) = some u := hown.cells (g := gg) rfl
        have hr2 := run_append_grow (P := Tryd.prog) w t o.type e i0 z ht hi hz0 ⟨gg, 0, none⟩ n cp xs (by rw [hz1]; exact hown.1) holds ⟨g, 0, none⟩ 1 1 news (by rw [hz1]; omega) hnews (by omega) (by omega) (growslice_fits (by omega) (by rw [hz2]; exact hb2))
        rw [hr2] at hr1
        injection hr1 with e1 e2
        subst e1
        exact .inr (fun x hx => by simp [Value.ownBlock] at hx; omega)
  unfold Oper.wp execOp
  simp only [ho, resolve, invoke, builtin, Sem.run_bind, Sem.run_pure, Result.andThen_ok, List.map_toArray, List.map_cons, List.map_nil, hs, hx, hr1]
  exact hK _ _ (h v' w' h2 h3 h5)
theorem gBat_ok {l : List Nat} {l2 : List Nat} (h : (gBat (some l)).2 = some l2) : okQ l = true ∧ (gBat (some l)).1 = bOf l := by
  unfold gBat at h ⊢
  simp only at h ⊢
  split at h
  · rename_i hq; exact ⟨hq, by rw [if_pos hq]⟩
  · cases h
theorem bOf_some {l : List Nat} (hq : okQ l = true) : 0 < (bOf l).rs.length := by
  unfold okQ at hq
  simp only [Bool.and_eq_true, decide_eq_true_eq] at hq
  obtain ⟨_, _, _, _, r0, _, _⟩ := wr_ok (chk_parts hq.1.1).1
  exact r0
theorem rrow_lt0 {w : World} {a : Option Addr} {rs : List Rc} (h : RRow w a rs) (h0 : 0 < rs.length) {g : Addr} (e : a = some g) : g.block < w.heap.size := by
  obtain ⟨b, off, e', c, _⟩ := h 0 h0
  rw [e] at e'
  injection e' with e'
  subst e'
  exact World.block_lt_of_cell? _ _ c
theorem bOf_baOk {w : World} {l : List Nat} (hq : okQ l = true) (hl : Byt l) (a : Option Addr) (c : Nat) (hr : RRow w a (bOf l).rs) (hn : a = none → c = 0) : BaOk w (bOf l) a c := by
  have hok := (okQ_iff hl).1 hq
  have hc : chkB (bOf l) = 0 := by
    unfold okQ at hq
    simp only [Bool.and_eq_true, decide_eq_true_eq] at hq
    exact hq.1.1
  obtain ⟨⟨b0, b1⟩, ⟨s0, s1⟩, _, _, r0, hri, _⟩ := wr_ok (chk_parts hc).1
  refine ⟨hr, bOf_in l, ?_, hn, ?_, ?_⟩
  · have h5 : (bOf l).rs.length = getV l 36 4 true := recs_len (partOf l) (frsOf l) (cntOf l)
    have h4 : getV l 36 4 true < 4294967296 := getV_lt l 36 4 hl.getD
    rw [h5]
    generalize getV l 36 4 true = q at *
    unfold maxLen
    omega
  · simp [Lit.wf, IntKind.min, IntKind.max, IntKind.signed, IntKind.bits]; omega
  · simp [Lit.wf, IntKind.min, IntKind.max, IntKind.signed, IntKind.bits]; omega
/-- The batches lie where they should, and not where the row of them lies. -/
def AllQ (w : World) (v : Value) (AA : List Bs) : Prop := ∀ s, s ∈ AA → BaOk w s.b s.a s.cap ∧ ∀ g, s.a = some g → v.ownBlock ≠ some g.block
theorem AllQ.nil (w : World) (v : Value) : AllQ w v [] := fun s hs => by cases hs
theorem AllQ.allB {w : World} {v : Value} {AA : List Bs} (h : AllQ w v AA) : AllB w AA := fun i hi => (h _ (by simp [List.getD, hi])).1
theorem AllQ.below {w w' : World} {v : Value} {AA : List Bs} (h : AllQ w v AA) (hb : Below w.heap.size w w') : AllQ w' v AA := fun s hs => ⟨(h s hs).1.below hb, (h s hs).2⟩
theorem AllQ.keepB {w0 w w' : World} {st : Ls} {v : Value} {AA : List Bs} (h : AllQ w v AA) (hr : RdR w0 w st) (k : KeepB w0.heap.size w w') : AllQ w' v AA := fun s hs => ⟨⟨(h s hs).1.1.keepB hr k, (h s hs).1.2⟩, (h s hs).2⟩
theorem AllQ.grown {w w' : World} {v v' : Value} {AA : List Bs} (h : AllQ w v AA) (g : w.grownBy w' v.ownBlock) (hv : v'.ownBlock = v.ownBlock ∨ ∀ x, v'.ownBlock = some x → w.heap.size ≤ x) (hl : ∀ s, s ∈ AA → ∀ g, s.a = some g → g.block < w.heap.size) : AllQ w' v' AA := by
  intro s hs
  obtain ⟨h1, h2⟩ := h s hs
  refine ⟨⟨rrow_keep h1.1 (fun i hi b off e => g.block b (h1.1.lt hi e) (fun q => h2 _ e q.symm)), h1.2⟩, fun gg hg => ?_⟩
  rcases hv with e | e
  · rw [e]; exact h2 gg hg
  · intro q
    have := e _ q
    have := hl s hs gg hg
    omega
def LowQ (w : World) (AA : List Bs) : Prop := ∀ s, s ∈ AA → ∀ g, s.a = some g → g.block < w.heap.size
theorem owns_brow' {w : World} {B : Nat} {v : Value} {ss : List Bs} (h : w.ownsRow B 85 5 v ss.length (bcv ss)) : ∃ a c, v = .slice a ss.length c ∧ BCells w a ss ∧ (a = none → c = 0) := by
  obtain ⟨a, c, e, hb⟩ := owns_brow h
  refine ⟨a, c, e, hb, fun q => ?_⟩
  rcases h.2 with ⟨rfl, _⟩ | ⟨g, cap, cur, rfl, _⟩
  · injection e with _ _ e3; omega
  · injection e with e1; rw [q] at e1; cases e1
set_option maxHeartbeats 800000 in
set_option maxRecDepth 100000 in
theorem trow_bat (w0 w : World) (st : Ls) (ht : Tab w0) (h : RdR w0 w st) :
    Calls Tryd.prog 76 #[.pointer (some ⟨w0.heap.size, 0, none⟩), .func (.func 77) #[.pointer (some ⟨w0.heap.size, 0, none⟩)] #[]] w fun e w' => (∃ a c ss, e = .returned (.slice a (ss : List Bs).length c) ∧ BRow w' a ss ∧ ss.map (·.b) = (gRow gBat st).1 ∧ (a = none → c = 0) ∧ (∀ g, a = some g → w.heap.size ≤ g.block)) ∧ RdR w0 w' (gRow gBat st).2 ∧ KeepB w0.heap.size w w' := by
  have hz : w0.heap.size < w.heap.size := by obtain ⟨a, cap, hx, _⟩ := h.box; exact (Array.getElem?_eq_some_iff.1 hx).1
  have HN : Hid _ := rnat_any w0 w st 2 2 rfl (by decide) (by decide) h
  have hn : (gN 2 st).1 < 65536 := gN_lt 2 st h.byt
  have HG : Hid (gRow gBat st = gL gBat (gN 2 st).1 (gN 2 st).2) := rfl
  have HBD : Hid ((gN 2 st).2 = none → (gN 2 st).1 = 0) := gN_bad
  have HO : Hid (∀ s x, RdR w0 x s → Calls Tryd.prog 77 #[.pointer (some ⟨w0.heap.size, 0, none⟩)] x (BatP w0 x (gBat s).1 (gBat s).2)) := fun s x hx => rbat_any w0 x s ht hx
  have HPB : Hid ((gBat none).2 = none) := rfl
  clear h
  generalize gRow gBat st = R at *
  generalize (gN 2 st).1 = n at *
  generalize (gN 2 st).2 = s0 at *
  have hnI : (n : Int) < 65536 := by omega
  go_enter Tryd.func76, Tryd.ntmps76
  go_wp2_with (go_at_call 32; refine Calls.mono HN.out ?_; rintro e w1 ⟨rfl, hw1, hk1⟩)
  go_loopw [4, 8] (fun v i wr => ∃ (k : Nat) (AA : List Bs) (s : Ls), k ≤ n ∧ i = .int .i64 k ∧ AA.length = k ∧ (s = none → n = 0 ∧ AA = []) ∧ R = gPre (AA.map (·.b)) (gL gBat (n - k) s) ∧ wr.ownsRow w.heap.size 85 5 v AA.length (bcv AA) ∧ RdR w0 wr s ∧ KeepB w0.heap.size w wr ∧ AllQ wr v AA ∧ LowQ wr AA) (fun _ i _ => n - (intOf i).toNat)
  case atStart => exact ⟨0, [], s0, by omega, rfl, rfl, fun e => ⟨HBD.out e, rfl⟩, by rw [HG.out]; exact gPre_start HPB.out _ _, World.ownsRow_nil _ _ _ _, hw1, hk1, AllQ.nil _ _, fun s hs => (by cases hs)⟩
  case round =>
    clear hw1 hk1
    obtain ⟨k, AA, s, hk, rfl, hAl, hsn, hR, hown, hw1, hk1, hall, hlow⟩ := hrel
    by_cases hlt : k < n
    · have hltI : (k : Int) < (n : Int) := by omega
      obtain ⟨ls, rfl⟩ : ∃ ls, s = some ls := by
        cases s with
        | none => have := (hsn rfl).1; omega
        | some ls => exact ⟨ls, rfl⟩
      have HC : Hid (Calls Tryd.prog 77 #[.pointer (some ⟨w0.heap.size, 0, none⟩)] wr (BatP w0 wr (gBat (some ls)).1 (gBat (some ls)).2)) := HO.out (some ls) wr hw1
      have HOWN : Hid (wr.ownsRow w.heap.size 85 5 u4 AA.length (bcv AA)) := hown
      have HK1 : Hid (KeepB w0.heap.size w wr) := hk1
      have HNK : Hid (n - k = (n - (k + 1)) + 1) := by show _ = _; omega
      have HR1 : Hid ((gBat (some ls)).2 = none → R = ([], none)) := fun e => by rw [hR, HNK.out]; exact gPre_bad _ _ _ e
      have HR2 : Hid (∀ l2, (gBat (some ls)).2 = some l2 → R = gPre ((AA.map (·.b)) ++ [(gBat (some ls)).1]) (gL gBat (n - (k + 1)) (some l2))) := fun l2 e => by rw [hR, HNK.out]; exact gPre_step _ _ _ _ e
      have HAL : Hid (AA.length = k) := hAl
      obtain ⟨va, vn, vc, rfl⟩ : ∃ va vn vc, u4 = .slice va vn vc := by
        rcases hown.2 with ⟨rfl, _⟩ | ⟨g, cap, cur, rfl, _⟩
        · exact ⟨_, _, _, rfl⟩
        · exact ⟨_, _, _, rfl⟩
      have HALL : Hid (AllQ wr (.slice va vn vc) AA) := hall
      have HLOW : Hid (LowQ wr AA) := hlow
      have HRW : Hid (RdR w0 wr (some ls)) := hw1
      have HOKQ : Hid (∀ l2, (gBat (some ls)).2 = some l2 → ∀ y a c, RRow y a (gBat (some ls)).1.rs → (a = none → c = 0) → BaOk y (gBat (some ls)).1 a c) := fun l2 e y a c hr hn => (by obtain ⟨q1, q2⟩ := gBat_ok e; rw [q2] at hr ⊢; exact bOf_baOk q1 hw1.byt a c hr hn)
      have HPOS : Hid (∀ l2, (gBat (some ls)).2 = some l2 → 0 < (gBat (some ls)).1.rs.length) := fun l2 e => (by obtain ⟨q1, q2⟩ := gBat_ok e; rw [q2]; exact bOf_some q1)
      have HVL : Hid (∀ k, (Value.slice va vn vc).ownBlock = some k → k < wr.heap.size) := fun k hk => (HOWN.out.lt k hk).2
      clear hall hlow
      clear hR hown hw1 hk1 HO hsn hAl HBD HG HPB
      generalize hs2 : (gBat (some ls)).2 = s2 at *
      generalize (gBat (some ls)).1 = xx at *
      obtain ⟨x0, x1, x2, x3, xr⟩ := xx
      obtain ⟨nx, HNX⟩ : ∃ nx, Hid (xr.length = nx) := ⟨_, rfl⟩
      cases s2 with
      | none =>
        have HRN : Hid (R = ([], none)) := HR1.out rfl
        go_wp2_with (go_at_call 77; refine Calls.mono HC.out ?_; rintro e w2 ⟨ax, cx, rfl, hrx, hnx, hnew, hw2, hk2⟩; simp only [bav]; rw [HNX.out]; obtain ⟨b0, bc, hbx, _⟩ := hw2.box; have d1 := (box_at hbx 1).1; simp only [List.getElem?_toArray, List.getElem?_cons_zero, List.getElem?_cons_succ, Option.isNone_none] at d1; have hz2 : w0.heap.size < w2.heap.size := (Array.getElem?_eq_some_iff.1 hbx).1; clear hbx)
        go_ret
        rw [HRN.out]
        exact ⟨⟨none, 0, [], rfl, ⟨fun i hi => (by simp at hi), fun i hi => (by simp at hi)⟩, rfl, fun _ => rfl, fun g hg => (by cases hg)⟩, hw2.below (below_box _), (HK1.out.trans hk2).trans (KeepB.of_below (below_box _))⟩
      | some l2 =>
        have HRS := HR2.out l2 rfl
        have HRR2 : Hid _ := HRS
        clear HR1 HR2 HRS
        go_wp2_with (first
          | (go_at_call 77; refine Calls.mono HC.out ?_; rintro e w2 ⟨ax, cx, rfl, hrx, hnx, hnew, hw2, hk2⟩; simp only [bav]; rw [HNX.out]; obtain ⟨b0, bc, hbx, _⟩ := hw2.box; have d1 := (box_at hbx 1).1; simp only [List.getElem?_toArray, List.getElem?_cons_zero, List.getElem?_cons_succ, Option.isNone_some] at d1; have hz2 : w0.heap.size < w2.heap.size := (Array.getElem?_eq_some_iff.1 hbx).1; have HW2 : Hid (RdR w0 w2 (some l2)) := hw2; have HK2 : Hid (KeepB w0.heap.size w w2) := HK1.out.trans hk2; have HOW2 : Hid (w2.ownsRow w.heap.size 85 5 (.slice va vn vc) AA.length (bcv AA)) := own_keepB HOWN.out hk2 hz; have hbb : Below w2.heap.size w2 ((w2.alloc (.cells #[.int .i64 x0, .int .i64 x1, .int .i64 x2, .int .i64 x3, .slice ax nx cx] 85)).alloc (.cells #[.int .i64 x0, .int .i64 x1, .int .i64 x2, .int .i64 x3, .slice ax nx cx] 85)) := ((below_box _).trans ((below_box _).mono (by simp))); have HOW3 : Hid (((w2.alloc (.cells #[.int .i64 x0, .int .i64 x1, .int .i64 x2, .int .i64 x3, .slice ax nx cx] 85)).alloc (.cells #[.int .i64 x0, .int .i64 x1, .int .i64 x2, .int .i64 x3, .slice ax nx cx] 85)).ownsRow w.heap.size 85 5 (.slice va vn vc) AA.length (bcv AA)) := own_any HOW2.out hbb; have HLE3 : Hid (w.heap.size ≤ ((w2.alloc (.cells #[.int .i64 x0, .int .i64 x1, .int .i64 x2, .int .i64 x3, .slice ax nx cx] 85)).alloc (.cells #[.int .i64 x0, .int .i64 x1, .int .i64 x2, .int .i64 x3, .slice ax nx cx] 85)).heap.size) := (by show _ ≤ _; have := HK2.out.size; simp; omega); have HNEW : Hid (((w2.alloc (.cells #[.int .i64 x0, .int .i64 x1, .int .i64 x2, .int .i64 x3, .slice ax nx cx] 85)).alloc (.cells #[.int .i64 x0, .int .i64 x1, .int .i64 x2, .int .i64 x3, .slice ax nx cx] 85)).heap[w2.heap.size + 1]? = some (.cells (List.toArray [Value.int .i64 x0, Value.int .i64 x1, Value.int .i64 x2, Value.int .i64 x3, Value.slice ax nx cx]) 85 (0, 0))) := (by have q := heap_alloc_new (w2.alloc (.cells #[.int .i64 x0, .int .i64 x1, .int .i64 x2, .int .i64 x3, .slice ax nx cx] 85)) (.cells #[.int .i64 x0, .int .i64 x1, .int .i64 x2, .int .i64 x3, .slice ax nx cx] 85); rw [show (w2.alloc (.cells #[.int .i64 x0, .int .i64 x1, .int .i64 x2, .int .i64 x3, .slice ax nx cx] 85)).heap.size = w2.heap.size + 1 by simp] at q; exact q); have HBK : Hid (BaOk ((w2.alloc (.cells #[.int .i64 x0, .int .i64 x1, .int .i64 x2, .int .i64 x3, .slice ax nx cx] 85)).alloc (.cells #[.int .i64 x0, .int .i64 x1, .int .i64 x2, .int .i64 x3, .slice ax nx cx] 85)) ⟨x0, x1, x2, x3, xr⟩ ax cx) := (HOKQ.out l2 rfl w2 ax cx hrx hnx).below hbb; have HAL2 : Hid (AllQ ((w2.alloc (.cells #[.int .i64 x0, .int .i64 x1, .int .i64 x2, .int .i64 x3, .slice ax nx cx] 85)).alloc (.cells #[.int .i64 x0, .int .i64 x1, .int .i64 x2, .int .i64 x3, .slice ax nx cx] 85)) (.slice va vn vc) AA) := (AllQ.keepB HALL.out HRW.out hk2).below hbb; have HNW : Hid (∀ g, ax = some g → wr.heap.size ≤ g.block ∧ g.block < ((w2.alloc (.cells #[.int .i64 x0, .int .i64 x1, .int .i64 x2, .int .i64 x3, .slice ax nx cx] 85)).alloc (.cells #[.int .i64 x0, .int .i64 x1, .int .i64 x2, .int .i64 x3, .slice ax nx cx] 85)).heap.size) := (fun g hg => ⟨hnew g hg, by have q1 := rrow_lt0 hrx (HPOS.out l2 rfl) hg; simp; omega⟩); have HLW : Hid (LowQ ((w2.alloc (.cells #[.int .i64 x0, .int .i64 x1, .int .i64 x2, .int .i64 x3, .slice ax nx cx] 85)).alloc (.cells #[.int .i64 x0, .int .i64 x1, .int .i64 x2, .int .i64 x3, .slice ax nx cx] 85)) AA) := (fun s hs g hg => by have q1 := HLOW.out s hs g hg; have q2 := hk2.size; simp; omega); clear hrx hnew hnx hbb; clear hbx hw2 hk2 HC)
          | (at_builtin; refine wpList_append_at (by rfl) _ _ 38 85 rfl _ 5 _ Tryd.underlying38 info85x rfl (by decide) (by decide) w.heap.size _ _ _ rfl (HOW3.out) (HLE3.out) _ [Value.int .i64 x0, Value.int .i64 x1, Value.int .i64 x2, Value.int .i64 x3, Value.slice ax nx cx] rfl rfl (HNEW.out) ((by simp [Value.oneCell'])) (by rw [HAL.out]; omega) ?_; intro v3 w3 ho3 hg3 hw3; have HO3 : Hid (w3.ownsRow w.heap.size 85 5 v3 (AA.length + 1) (bcv AA ++ [Value.int .i64 x0, Value.int .i64 x1, Value.int .i64 x2, Value.int .i64 x3, Value.slice ax nx cx])) := ho3; have HG3 : Hid _ := hg3; have HW3 : Hid _ := hw3; clear ho3 hg3 hw3))
        refine ⟨⟨k + 1, AA ++ [⟨⟨x0, x1, x2, x3, xr⟩, ax, cx⟩], some l2, by omega, by go_num, by rw [List.length_append, HAL.out]; rfl, fun e => (by cases e), by rw [List.map_append]; exact HRR2.out, by rw [List.length_append, bcv_snoc]; have q := HO3.out; rw [← HNX.out] at q; exact q, ?_, ?_, ?_, ?_⟩, by simp [intOf]; omega⟩
        · exact (RdR.below (RdR.below HW2.out (below_box _)) (below_box _)).grown HG3.out HOW3.out hz
        · exact keepB_grown (below_keepB _ (below_keepB _ HK2.out)) HOW3.out HG3.out (Nat.le_refl _)
        · refine AllQ.grown (v := .slice va vn vc) ?_ HG3.out HW3.out ?_
          · intro s hs
            rcases List.mem_append.1 hs with q | q
            · exact HAL2.out s q
            · obtain rfl : s = ⟨⟨x0, x1, x2, x3, xr⟩, ax, cx⟩ := by simpa using q
              refine ⟨HBK.out, fun g hg q => ?_⟩
              have h1 := HVL.out _ q
              have h2 := (HNW.out g hg).1
              omega
          · intro s hs
            rcases List.mem_append.1 hs with q | q
            · exact HLW.out s q
            · obtain rfl : s = ⟨⟨x0, x1, x2, x3, xr⟩, ax, cx⟩ := by simpa using q
              exact fun g hg => (HNW.out g hg).2
        · intro s hs g hg
          refine Nat.lt_of_lt_of_le ?_ HG3.out.size
          rcases List.mem_append.1 hs with q | q
          · exact HLW.out s q g hg
          · obtain rfl : s = ⟨⟨x0, x1, x2, x3, xr⟩, ax, cx⟩ := by simpa using q
            exact (HNW.out g hg).2
    · obtain rfl : k = n := by omega
      have HEND : Hid (s = none → AA = []) := fun e => (hsn e).2
      have HRE : Hid (R = ((AA.map (·.b)), s)) := by
        show _ = _
        rw [hR, Nat.sub_self]
        cases s with
        | none => rw [(hsn rfl).2]; rfl
        | some ls => exact gPre_end _ _
      clear hR hsn
      obtain ⟨va, vc, rfl, hsr, hnn⟩ := owns_brow' hown
      have HSR : Hid (BRow wr va AA) := ⟨hsr, hall.allB⟩
      have HNG : Hid (∀ g, va = some g → w.heap.size ≤ g.block) := own_new hown
      go_wp2_with fail
      go_ret
      rw [HRE.out]
      exact ⟨⟨va, vc, AA, by rw [hAl]; rfl, HSR.out, rfl, hnn, HNG.out⟩, hw1, hk1⟩
end Go.Proofs.YtaooidckmepdeaaDoor
