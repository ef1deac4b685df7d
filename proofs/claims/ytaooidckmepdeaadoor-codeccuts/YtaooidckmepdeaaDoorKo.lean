/- The reader: a record, a batch; what a row leans on. -/
import Derived.Test.YtaooidckmepdeaaDoorKn
import Derived.Test.YtaooidckmepdeaaDoorBw
namespace Go.Proofs.YtaooidckmepdeaaDoor
set_option linter.unusedSimpArgs false
set_option linter.unusedVariables false
open Go.RowKit
theorem gUp_le (n most : Nat) (st : Ls) : (gUp n most st).1 ≤ most := by
  unfold gUp
  split
  · exact Nat.zero_le _
  · omega
theorem rrec_any (w0 w : World) (st : Ls) (h : RdR w0 w st) : Calls Tryd.prog 73 #[.pointer (some ⟨w0.heap.size, 0, none⟩)] w (RP w0 w (.agg (gRec st).1.cells) (gRec st).2) := by
  have hm := gUp_le 1 3 st
  have HU : ∀ x, RdR w0 x st → Calls Tryd.prog 70 #[.pointer (some ⟨w0.heap.size, 0, none⟩), .int .i64 1, .int .i64 3] x (RP w0 x (.int .i64 ((gUp 1 3 st).1 : Nat)) (gUp 1 3 st).2) := fun x hx => rup_any w0 x st 3 1 3 rfl rfl (by decide) hx
  have HT : ∀ s x, RdR w0 x s → Calls Tryd.prog 71 #[.pointer (some ⟨w0.heap.size, 0, none⟩)] x (RP w0 x (.string (gT s).1) (gT s).2) := fun s x hx => rtext_any w0 x s hx
  have HI : ∀ s x, RdR w0 x s → Calls Tryd.prog 69 #[.pointer (some ⟨w0.heap.size, 0, none⟩)] x (RP w0 x (.int .i64 (gI s).1) (gI s).2) := fun s x hx => rnum_any w0 x s hx
  unfold gRec
  simp only [Rc.cells]
  generalize (gUp 1 3 st).1 = m at *
  generalize (gUp 1 3 st).2 = s1 at *
  have hc : m = 0 ∨ m = 1 ∨ m = 2 ∨ m = 3 := by omega
  rcases hc with rfl | rfl | rfl | rfl
  · exact rrec_0 w0 w st s1 _ _ _ _ _ _ h HU (HT s1) (HT s1) (HI s1)
  · exact rrec_1 w0 w st s1 _ _ _ _ _ _ h HU (HT s1) (HT _) (HI _)
  · exact rrec_2 w0 w st s1 _ _ _ _ _ _ h HU (HT s1) (HT s1) (HI _)
  · exact rrec_3 w0 w st s1 _ _ _ _ _ _ h HU (HT s1) (HT _) (HI _)
/-- A row of records does not lie in a block that is too small for one. -/
theorem rrow_ne {w : World} {a : Option Addr} {rs : List Rc} {B : Nat} {cs : Array Value} {t : TypeId} {fr : Nat × Nat} (h : RRow w a rs) (hb : w.heap[B]? = some (.cells cs t fr)) (hs : cs.size < 6) : ∀ i, i < rs.length → ∀ b off, a = some ⟨b, off, none⟩ → b ≠ B := by
  intro i hi b off e
  rintro rfl
  obtain ⟨b', off', e', _, _, _, _, _, h5⟩ := h i hi
  rw [e] at e'
  simp only [Option.some.injEq, Addr.mk.injEq, and_true] at e'
  obtain ⟨rfl, rfl⟩ := e'
  have : w.cell? ⟨b, off + i * 6 + 5, none⟩ = cs[off + i * 6 + 5]? := cell_of_row _ b _ cs t fr hb
  rw [this, Array.getElem?_eq_none (by omega)] at h5
  cases h5
theorem rrow_keep {w w' : World} {a : Option Addr} {rs : List Rc} (h : RRow w a rs) (hk : ∀ i, i < rs.length → ∀ b off, a = some ⟨b, off, none⟩ → w'.heap[b]? = w.heap[b]?) : RRow w' a rs := by
  intro i hi
  obtain ⟨b, off, e, h0, h1, h2, h3, h4, h5⟩ := h i hi
  have hb := hk i hi b off e
  have c : ∀ j, w'.cell? ⟨b, j, none⟩ = w.cell? ⟨b, j, none⟩ := fun j => World.cell?_of_block (a := ⟨b, j, none⟩) hb
  exact ⟨b, off, e, (c _).trans h0, (c _).trans h1, (c _).trans h2, (c _).trans h3, (c _).trans h4, (c _).trans h5⟩
theorem RRow.lt {w : World} {a : Option Addr} {rs : List Rc} (h : RRow w a rs) {i : Nat} (hi : i < rs.length) {b off : Nat} (e : a = some ⟨b, off, none⟩) : b < w.heap.size := by
  obtain ⟨b', off', e', h0, _⟩ := h i hi
  rw [e] at e'
  simp only [Option.some.injEq, Addr.mk.injEq, and_true] at e'
  obtain ⟨rfl, rfl⟩ := e'
  exact World.block_lt_of_cell? _ _ h0
theorem RdR.blk {w0 w : World} {st : Ls} (h : RdR w0 w st) : ∃ cs, w.heap[w0.heap.size]? = some (.cells cs 89 (0, 0)) ∧ cs.size < 6 := by
  obtain ⟨a, cap, hx, _⟩ := h.box
  exact ⟨_, hx, by simp⟩
theorem RRow.keepB {w0 w w' : World} {st : Ls} {a : Option Addr} {rs : List Rc} (h : RRow w a rs) (hr : RdR w0 w st) (k : KeepB w0.heap.size w w') : RRow w' a rs := by
  obtain ⟨cs, hx, hs⟩ := hr.blk
  exact rrow_keep h (fun i hi b off e => k.blk b (rrow_ne h hx hs i hi b off e) (h.lt hi e))
theorem RdR.offRow {w0 w : World} {st : Ls} {x : Nat} {cs : Array Value} (h : RdR w0 w st) (hx : w0.heap.size < x) : RdR w0 (w.setRow x cs) st := by
  obtain ⟨a, cap, hb, r⟩ := h.box
  exact ⟨⟨a, cap, (setRow_other w x _ cs (by omega)).trans hb, r⟩, below_setRow h.bel (by omega) cs⟩
theorem KeepB.offRow {B : Nat} {w w' : World} {x : Nat} {cs : Array Value} (h : KeepB B w w') (hx : w.heap.size ≤ x) : KeepB B w (w'.setRow x cs) :=
  ⟨by simpa using h.size, fun y hy hl => (setRow_other w' x y cs (by omega)).trans (h.blk y hy hl)⟩
/-- What batch leaves. -/
def BatP (w0 w : World) (b : Ba) (st : Ls) (e : Ending) (w' : World) : Prop := ∃ a c, e = .returned (bav b a c) ∧ RRow w' a b.rs ∧ (a = none → c = 0) ∧ (∀ g, a = some g → w.heap.size ≤ g.block) ∧ RdR w0 w' st ∧ KeepB w0.heap.size w w'
def bzc : Array Value := #[.int .i64 0, .int .i64 0, .int .i64 0, .int .i64 0, .slice none 0 0]
set_option maxHeartbeats 400000 in
set_option maxRecDepth 100000 in
theorem rbat_any (w0 w : World) (st : Ls) (ht : Tab w0) (h : RdR w0 w st) : Calls Tryd.prog 77 #[.pointer (some ⟨w0.heap.size, 0, none⟩)] w (BatP w0 w (gBat st).1 (gBat st).2) := by
  obtain ⟨a, cap, hx, hr, hl, hc, hn, hbig⟩ := h.box
  have hz : w0.heap.size < w.heap.size := (Array.getElem?_eq_some_iff.1 hx).1
  have hb0 : Below w.heap.size w (w.alloc (.cells bzc 85)) := below_box _
  have h0 : RdR w0 (w.alloc (.cells bzc 85)) st := h.below hb0
  have hx0 : (w.alloc (.cells bzc 85)).heap[w.heap.size]? = some (.cells bzc 85 (0, 0)) := heap_alloc_new w _
  have hB0 : (w.alloc (.cells bzc 85)).heap[w0.heap.size]? = some (.cells #[.slice a (lft st).length cap, .bool st.isNone] 89 (0, 0)) := (hb0.block _ hz).trans hx
  have HD : Hid _ := bdecode_any a cap (lft st) (w.alloc (.cells bzc 85)) (ht.below h0.bel) (hr.below h0.bel) hl hc hbig
  have HFail : Hid (∀ x, RdR w0 x st → Calls Tryd.prog 68 #[.pointer (some ⟨w0.heap.size, 0, none⟩)] x (RP w0 x (.tuple #[]) none)) := fun x hx => rfail_any w0 x st hx
  have c0 := (box_at hB0 0).1
  have c1 := (box_at hB0 1).1
  have f0 := (box_at hB0 0).2
  simp only [List.getElem?_toArray, List.getElem?_cons_zero, List.getElem?_cons_succ] at c0 c1
  have HX0 : Hid ((w.alloc (.cells bzc 85)).heap[w.heap.size]? = some (.cells bzc 85 (0, 0))) := hx0
  have HB0 : Hid ((w.alloc (.cells bzc 85)).heap[w0.heap.size]? = some (.cells #[.slice a (lft st).length cap, .bool st.isNone] 89 (0, 0))) := hB0
  have HH : Hid (RdR w0 (w.alloc (.cells bzc 85)) st) := h0
  have HR : Hid (Row w0 a (lft st)) := hr
  have HY : Hid (Byt (lft st)) := h.byt
  clear hx hr h h0 hx0 hB0 hb0
  unfold bzc at *
  by_cases hok : OkB (lft st)
  · obtain ⟨l, rfl⟩ : ∃ l, st = some l := by
      cases st with
      | none => exact absurd hok.l48 (by simp [lft])
      | some l => exact ⟨l, rfl⟩
    simp only [lft, Option.getD_some, Option.isNone_some] at *
    have e1 : gBat (some l) = (bOf l, some (l.drop (lenN l))) := by unfold gBat; simp only; rw [if_pos ((okQ_iff HY.out).2 hok)]
    rw [e1]
    have hN : lenN l ≤ l.length := hok.nl
    have HO : Hid (OkB l) := hok
    have ks := fun y => run_cut y a l.length cap (lenN l) (lenN l) rfl hN
    have HNN : Hid (lenN l ≤ l.length) := hN
    have hNI : ((lenN l : Nat) : Int) ≤ 6000 := by have := hok.nm; omega
    clear hok e1 HFail hN
    obtain ⟨b, HBb⟩ : ∃ b, Hid (bOf l = b) := ⟨_, rfl⟩
    rw [HBb.out] at HD ⊢
    obtain ⟨n, HN⟩ : ∃ n, Hid (lenN l = n) := ⟨_, rfl⟩
    rw [HN.out] at HD ks hNI ⊢
    obtain ⟨n5, HN5⟩ : ∃ n5, Hid (b.rs.length = n5) := ⟨_, rfl⟩
    simp only [bav] at HD
    rw [HN5.out] at HD
    obtain ⟨v0, v1, v2, v3, HV⟩ : ∃ v0 v1 v2 v3, Hid (b.base = v0 ∧ b.span = v1 ∧ b.prod = v2 ∧ b.seq = v3) := ⟨_, _, _, _, rfl, rfl, rfl, rfl⟩
    rw [HV.out.1, HV.out.2.1, HV.out.2.2.1, HV.out.2.2.2] at HD
    have HZ : Hid (w0.heap.size < w.heap.size) := hz
    go_enter Tryd.func77, Tryd.ntmps77
    go_wp2_with (first
      | (go_at_call 87; refine Calls.mono HD.out ?_; rintro e w1 ⟨hyes, _, hb1⟩; obtain ⟨a', c', rfl, hrr, hn', hnew⟩ := hyes HO.out; clear hyes; have HRR : Hid (RRow w1 a' b.rs) := hrr; have HB1 : Hid (w1.heap[w0.heap.size]? = some (.cells #[.slice a l.length cap, .bool false] 89 (0, 0))) := (hb1.block _ (Array.getElem?_eq_some_iff.1 HB0.out).1).trans HB0.out; have HX1 : Hid (w1.heap[w.heap.size]? = some (.cells #[.int .i64 0, .int .i64 0, .int .i64 0, .int .i64 0, .slice none 0 0] 85 (0, 0))) := (hb1.block _ (Array.getElem?_eq_some_iff.1 HX0.out).1).trans HX0.out; have HK1 : Hid (KeepB w0.heap.size w w1) := (KeepB.of_below (below_box _)).trans (KeepB.of_below hb1); have HCC : Hid _ := RdR.cut (n := n) (b := false) (HH.out.bel.trans (hb1.mono HH.out.bel.size)) HB1.out HR.out hl hc hn (by rw [← HN.out]; exact HNN.out) hbig; have d0 := (box_at HB1.out 0).1; have d1 := (box_at HB1.out 1).1; have g0 := (box_at HB1.out 0).2; simp only [List.getElem?_toArray, List.getElem?_cons_zero, List.getElem?_cons_succ] at d0 d1; have hz1 : w0.heap.size < w1.heap.size := (Array.getElem?_eq_some_iff.1 HB1.out).1; have hz2 : w.heap.size < w1.heap.size := (Array.getElem?_eq_some_iff.1 HX1.out).1; have HXW : Hid (((w1.setCell ⟨w0.heap.size, 0, none⟩ (.slice (cutA a cap n) (l.length - n) (cap - n))).alloc (.cells #[.int .i64 v0, .int .i64 v1, .int .i64 v2, .int .i64 v3, .slice a' n5 c'] 85)).heap[w.heap.size]? = some (.cells #[.int .i64 0, .int .i64 0, .int .i64 0, .int .i64 0, .slice none 0 0] 85 (0, 0))) := (by rw [(below_box (w := w1.setCell ⟨w0.heap.size, 0, none⟩ (.slice (cutA a cap n) (l.length - n) (cap - n))) (.cells #[.int .i64 v0, .int .i64 v1, .int .i64 v2, .int .i64 v3, .slice a' n5 c'] 85)).block w.heap.size (by simpa [World.setCell] using hz2)]; exact HCC.out.2.box HX1.out (by omega)); have tokS : True := trivial; clear hrr hb1 c0 c1 f0)
      | (have _t := tokS; refine wpList_store_row rfl 85 _ _ rfl w.heap.size #[.int .i64 v0, .int .i64 v1, .int .i64 v2, .int .i64 v3, .slice a' n5 c'] rfl rfl 85 _ HXW.out Tryd.info85 rfl (bat_one _ _ _ _ _ _ _) ?_; clear _t))
    refine bodyPost_ret (results_cell_row rfl _ _ w.heap.size 85 #[.int .i64 v0, .int .i64 v1, .int .i64 v2, .int .i64 v3, .slice a' n5 c'] (0, 0) _ rfl (setRow_heap _ _ _ _ _ _ HXW.out) Tryd.underlying85 rfl Tryd.info85) rfl ?_
    obtain ⟨hcr, hck⟩ := HCC.out
    refine ⟨a', c', ?_, ?_, hn', fun g hg => (by have := hnew g hg; simp at this; omega), (hcr.below (below_box _)).offRow HZ.out, ((HK1.out.trans hck).trans (KeepB.of_below (below_box _))).offRow (Nat.le_refl _)⟩
    · simp only [bav]
      rw [HV.out.1, HV.out.2.1, HV.out.2.2.1, HV.out.2.2.2, HN5.out]
    · refine rrow_keep HRR.out (fun i hi bb off e => ?_)
      have n1 := rrow_ne HRR.out HB1.out (by simp) i hi bb off e
      have n2 := rrow_ne HRR.out HX1.out (by simp) i hi bb off e
      have n3 := HRR.out.lt hi e
      rw [setRow_other _ _ _ _ n2, (below_box (w := w1.setCell ⟨w0.heap.size, 0, none⟩ (.slice (cutA a cap n) (l.length - n) (cap - n))) _).block bb (by simpa [World.setCell] using n3)]
      exact heap_setCell_other w1 ⟨w0.heap.size, 0, none⟩ bb _ n1
  · have e1 : gBat st = (⟨0, 0, 0, 0, []⟩, none) := by
      cases st with
      | none => rfl
      | some l =>
        have : ¬ okQ l = true := fun q => hok ((okQ_iff HY.out).1 q)
        unfold gBat; simp only; rw [if_neg this]
    rw [e1]
    have HO : Hid (¬ OkB (lft st)) := hok
    have HZ : Hid (w0.heap.size < w.heap.size) := hz
    clear hok e1 HR HY
    obtain ⟨LL, HLL⟩ : ∃ LL, Hid ((lft st).length = LL) := ⟨_, rfl⟩
    rw [HLL.out] at HD c0
    simp only [bav, bz, List.length_nil] at HD
    go_enter Tryd.func77, Tryd.ntmps77
    go_wp2_with (first
      | (go_at_call 87; refine Calls.mono HD.out ?_; rintro e w1 ⟨_, hno, hb1⟩; obtain rfl := hno HO.out; clear hno; have HX1 : Hid (w1.heap[w.heap.size]? = some (.cells #[.int .i64 0, .int .i64 0, .int .i64 0, .int .i64 0, .slice none 0 0] 85 (0, 0))) := (hb1.block _ (Array.getElem?_eq_some_iff.1 HX0.out).1).trans HX0.out; have HK1 : Hid (KeepB w0.heap.size w w1) := (KeepB.of_below (below_box _)).trans (KeepB.of_below hb1); have HW1 : Hid (RdR w0 w1 st) := HH.out.below hb1; have hz2 : w.heap.size < w1.heap.size := (Array.getElem?_eq_some_iff.1 HX1.out).1; clear hb1 c0 c1 f0)
      | (go_at_call 68; refine (HFail.out _ (HW1.out.below (below_box _))).mono ?_; rintro e w2 ⟨rfl, hw2, hk2⟩; have HX2 : Hid (w2.heap[w.heap.size]? = some (.cells #[.int .i64 0, .int .i64 0, .int .i64 0, .int .i64 0, .slice none 0 0] 85 (0, 0))) := hk2.box ((((below_box _).block w.heap.size hz2)).trans HX1.out) (Nat.ne_of_gt HZ.out); have tokS : True := trivial)
      | (have _t := tokS; refine wpList_store_row rfl 85 _ _ rfl w.heap.size #[.int .i64 0, .int .i64 0, .int .i64 0, .int .i64 0, .slice none 0 0] rfl rfl 85 _ HX2.out Tryd.info85 rfl (bat_one _ _ _ _ _ _ _) ?_; clear _t))
    refine bodyPost_ret (results_cell_row rfl _ _ w.heap.size 85 #[.int .i64 0, .int .i64 0, .int .i64 0, .int .i64 0, .slice none 0 0] (0, 0) _ rfl (setRow_heap _ _ _ _ _ _ HX2.out) Tryd.underlying85 rfl Tryd.info85) rfl ?_
    exact ⟨none, 0, rfl, RRow.nil _ _, fun _ => rfl, fun g hg => (by cases hg), hw2.offRow HZ.out, ((HK1.out.trans (KeepB.of_below (below_box _))).trans hk2).offRow (Nat.le_refl _)⟩
/-- append of one, of whatever kind. -/
theorem wpList_append_one {w : World} {ops : Array Oper} {rest : List Oper} {o : Oper} {a : Act} {Q : Exit → Act → World → Prop} (hw : Region.wanted o (yielded ops a.tmps) = true) (s x : Operand) (t e : TypeId)
    (ho : o.op = .call { callee := .builtin .append, args := #[s, x], argTypes := #[t, t] }) (z : Value) (size bytes : Nat) (ht : Tryd.prog.underlying t = some (.slice e)) (hi : (Tryd.prog.info? e).map (fun i => (i.zero, i.size, i.bytes)) = some (some z, size, bytes))
    (hzs : z.cells.size = size) (hpos : 0 < size) (hby : bytes ≤ 100) (B : Nat) (v : Value) (n : Nat) (xs : List Value) (hs : a.eval s = v) (hown : w.ownsRow B e size v n xs) (hBs : B ≤ w.heap.size)
    (g : Nat) (news : List Value) (hx : a.eval x = .slice (some ⟨g, 0, none⟩) 1 1) (hl : news.length = size) (hg : w.heap[g]? = some (.cells news.toArray e (0, 0))) (hone : ∀ u ∈ news, u.oneCell' = true) (hn : n ≤ 1000000)
    (h : ∀ v' w', w'.ownsRow B e size v' (n + 1) (xs ++ news) → w.grownBy w' v.ownBlock → wpList Tryd.prog ops Q rest (a.put o.dst v') w') : wpList Tryd.prog ops Q (o :: rest) a w := by
  obtain ⟨i0, hi, hz0, hz1, hz2⟩ := info_parts hi
  refine BigFrame.wpList_want hw fun K hK => ?_
  refine wp_append_own w s x t ho B e i0 z size bytes ht hi hz0 hz1 hz2 hzs hpos v n xs hs hown ⟨g, 0, none⟩ 1 1 news hx (by omega) ?_ hone (by unfold maxLen; omega) ?_ hBs ?_
  · intro j u hj
    rw [Addr.add_lit, cell_of_row _ g (0 + j) news.toArray e (0, 0) hg]
    simpa using hj
  · have : (n + 1) * bytes ≤ 1000001 * 100 := Nat.mul_le_mul (by omega) hby
    omega
  · intro v' w' h2 h3 _
    exact hK _ _ (h v' w' h2 h3)
theorem own_keepB {B M : Nat} {w w' : World} {e : TypeId} {s : Nat} {v : Value} {n : Nat} {xs : List Value} (h : w.ownsRow M e s v n xs) (k : KeepB B w w') (hB : B < M) : w'.ownsRow M e s v n xs := by
  refine ⟨h.1, ?_⟩
  rcases h.2 with hn | ⟨g, cap, cur, rfl, hb, hg, rest⟩
  · exact .inl hn
  · exact .inr ⟨g, cap, cur, rfl, hb, (k.blk g (by omega) (Array.getElem?_eq_some_iff.1 hg).1).trans hg, rest⟩
theorem keepB_grown {B M : Nat} {w0 w w' : World} {e : TypeId} {s : Nat} {v : Value} {n : Nat} {xs : List Value} (k : KeepB B w0 w) (h : w.ownsRow M e s v n xs) (g : w.grownBy w' v.ownBlock) (hM : w0.heap.size ≤ M) : KeepB B w0 w' :=
  ⟨Nat.le_trans k.size g.size, fun x hx hl => (g.block x (Nat.lt_of_lt_of_le hl k.size) (fun q => by have := (h.lt x q.symm).1; omega)).trans (k.blk x hx hl)⟩
/-- What stands behind some of a row. -/
def gPre {α : Type} (A : List α) : List α × Ls → List α × Ls
  | (xs, some l) => (A ++ xs, some l)
  | (_, none) => ([], none)
theorem gL_nil {α : Type} {pa : Ls → α × Ls} (hb : (pa none).2 = none) : ∀ (n : Nat) (s : Ls), (gL pa n s).2 = none → (gL pa n s).1 = [] := by
  intro n
  induction n with
  | zero => intro s _; rfl
  | succ n ih =>
    intro s h
    simp only [gL] at h ⊢
    split
    · rfl
    · rename_i hne
      rw [if_neg hne] at h
      cases hg : gL pa n (pa s).2 with
      | mk xs s2 =>
        rw [hg] at h
        cases s2 with
        | none => rfl
        | some l => simp [gC] at h
theorem gPre_start {α : Type} {pa : Ls → α × Ls} (hb : (pa none).2 = none) (n : Nat) (s : Ls) : gL pa n s = gPre [] (gL pa n s) := by
  have h := gL_nil hb n s
  cases hg : gL pa n s with
  | mk xs s2 =>
    rw [hg] at h
    cases s2 with
    | none => rw [show xs = [] from h rfl]; rfl
    | some l => rfl
theorem gPre_bad {α : Type} {pa : Ls → α × Ls} (A : List α) (k : Nat) (s : Ls) (h : (pa s).2 = none) : gPre A (gL pa (k + 1) s) = ([], none) := by
  simp only [gL]
  rw [if_pos h]
  rfl
theorem gPre_step {α : Type} {pa : Ls → α × Ls} (A : List α) (k : Nat) (s : Ls) (l : List Nat) (h : (pa s).2 = some l) : gPre A (gL pa (k + 1) s) = gPre (A ++ [(pa s).1]) (gL pa k (some l)) := by
  simp only [gL]
  rw [if_neg (by rw [h]; simp), h]
  cases hg : gL pa k (some l) with
  | mk xs s2 =>
    cases s2 with
    | none => rfl
    | some l2 => simp [gC, gPre]
theorem gPre_end {α : Type} {pa : Ls → α × Ls} (A : List α) (l : List Nat) : gPre A (gL pa 0 (some l)) = (A, some l) := by simp [gL, gPre]
theorem gN_bad {n : Nat} {st : Ls} (h : (gN n st).2 = none) : (gN n st).1 = 0 := by
  cases st with
  | none => rfl
  | some l =>
    unfold gN at h ⊢
    simp only at h ⊢
    split at h
    · cases h
    · rename_i hq; rw [if_neg hq]
end Go.Proofs.YtaooidckmepdeaaDoor
