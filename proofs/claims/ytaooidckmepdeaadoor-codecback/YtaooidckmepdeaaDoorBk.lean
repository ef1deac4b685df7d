/- CodecBack. -/
import Derived.Test.YtaooidckmepdeaaDoorOn
import Derived.Test.YtaooidckmepdeaaDoorIs
import Derived.Test.YtaooidckmepdeaaDoorCu
namespace Go.Proofs.YtaooidckmepdeaaDoor
set_option linter.unusedSimpArgs false
set_option linter.unusedVariables false
open Go.RowKit
theorem wpList_append_big {w : World} {ops : Array Oper} {rest : List Oper} {o : Oper} {a : Act} {Q : Exit → Act → World → Prop} (hw : Region.wanted o (yielded ops a.tmps) = true) (s x : Operand)
    (ho : o.op = .call { callee := .builtin .append, args := #[s, x], argTypes := #[29, 29] }) (B : Nat) (w0 : World)
    (v : Value) (n : Nat) (xs : List Value) (hs : a.eval s = v) (hown : w.ownsRow B 5 1 v n xs) (hB : Below B w0 w) (hBs : B ≤ w.heap.size)
    (a' : Option Addr) (cap : Nat) (l : List Nat) (hx : a.eval x = .slice a' l.length cap) (hr : Row w a' l) (hn : a' = none → cap = 0) (h63 : n + l.length ≤ 100000000000000)
    (h : ∀ v' w', w'.ownsRow B 5 1 v' (n + l.length) (xs ++ cv l) → Below B w0 w' → wpList Tryd.prog ops Q rest (a.put o.dst v') w') : wpList Tryd.prog ops Q (o :: rest) a w := by
  obtain ⟨i0, hi, hz0, hz1, hz2⟩ := info_parts Tryd.info5
  cases a' with
  | none =>
    obtain rfl := row_none hr
    obtain rfl := hn rfl
    refine BigFrame.wpList_want hw fun K hK => ?_
    have hrun := run_append_owned_none (P := Tryd.prog) (w := w) B 29 o.type 5 i0 1 Tryd.underlying29 hi v n xs hown
    have h0 : wpList Tryd.prog ops Q rest (a.put o.dst v) w := h v w (by simpa [cv] using hown) hB
    unfold Oper.wp
    simp [execOp, ho, resolve, invoke, builtin, hs, hx, hrun, Result.andThen]
    exact hK _ _ h0
  | some ad =>
    refine BigFrame.wpList_want hw fun K hK => ?_
    refine wp_append_own w s x 29 ho B 5 i0 (.int .u8 0) 1 1 Tryd.underlying29 hi hz0 hz1 hz2 rfl (by decide) v n xs hs hown ad l.length cap (cv l) hx (by rw [cv_length]; omega) (row_news hr) (cv_one _) (by unfold maxLen; omega) (by omega) hBs ?_
    intro v' w' h2 h3 _
    exact hK _ _ (h v' w' h2 (hB.grown h3 hBs (fun k hk => (hown.lt k hk).1)))
theorem BOk.of_owns {w : World} {B : Nat} {v : Value} {L : List Nat} (ho : w.ownsRow B 5 1 v L.length (cv L)) (hy : Byt L) (hbig : L.length ≤ 1000000000000) : ∃ a c, v = .slice a L.length c ∧ BOk w a c L := by
  obtain ⟨a, c, rfl, hr, hn⟩ := owns_sl ho (lt_mem hy)
  have hc : L.length ≤ c ∧ c ≤ maxLen := by
    rcases ho.2 with ⟨e, h0⟩ | ⟨g, cap, cur, e, hB, hg, hle, hm, _⟩
    · injection e with e1 e2 e3; subst e3; exact ⟨by omega, by unfold maxLen; omega⟩
    · injection e with e1 e2 e3; subst e3; exact ⟨by omega, hm⟩
  exact ⟨a, c, rfl, ⟨hr, hc.1, hc.2, hn, hbig⟩⟩
theorem eText_len {x : ByteArray} {A : List Nat} (h : eText x = some A) : A.length ≤ 65537 := by
  unfold eText at h
  split at h
  · simp only [Option.some.injEq] at h; subst h; rw [List.length_append, lay_len, sb_len]; omega
  · cases h
theorem eIf_len {c : Bool} {x : ByteArray} {A : List Nat} (h : eIf c x = some A) : A.length ≤ 65537 := by
  unfold eIf at h
  cases c with
  | true => exact eText_len (by simpa using h)
  | false => simp at h; subst h; exact Nat.zero_le _
theorem eInt_len (v : Int) : (eInt v).length = 8 := lay_len _ _
theorem eRec_len {x : Rc} {A : List Nat} (h : eRec x = some A) : A.length ≤ 131083 := by
  unfold eRec at h
  split at h
  · obtain ⟨A1, C1, e1, h1, rfl⟩ := oa_some h
    obtain ⟨A2, C2, e2, h2, rfl⟩ := oa_some h1
    obtain ⟨A3, C3, e3, h3, rfl⟩ := oa_some h2
    simp only [Option.some.injEq] at e1 h3
    have q1 : A1.length = 1 := by rw [← e1]; exact lay_len _ _
    have q2 := eIf_len e2
    have q3 := eIf_len e3
    have q4 : C3.length = 8 := by rw [← h3]; exact eInt_len _
    simp only [List.length_append]
    omega
  · cases h
theorem eBat_len {x : Ba} {A : List Nat} (h : eBat x = some A) : A.length ≤ 131083 := by
  unfold eBat at h
  split at h
  · rename_i hc
    simp only [Option.some.injEq] at h
    have h6 := (chk_parts hc).2
    have hl := encB_len x
    subst h
    omega
  · cases h
theorem eL_len {α : Type} {en : α → Ls} (hB : ∀ x A, en x = some A → A.length ≤ 131083) : ∀ {l : List α} {L : List Nat}, eL en l = some L → L.length ≤ l.length * 131083
  | [], L, h => by simp [eL] at h; subst h; exact Nat.zero_le _
  | x :: r, L, h => by
    obtain ⟨A, C, h1, h2, rfl⟩ := oa_some h
    have := hB x A h1
    have := eL_len hB h2
    simp only [List.length_append, List.length_cons]
    omega
theorem eRow_len {α : Type} {en : α → Ls} (hB : ∀ x A, en x = some A → A.length ≤ 131083) {l : List α} {L : List Nat} (h : eRow en l = some L) : L.length ≤ 8590524407 := by
  have hl := (eRow_fit h).1
  unfold eRow at h
  rw [if_pos hl] at h
  obtain ⟨A, C, h1, h2, rfl⟩ := oa_some h
  simp only [Option.some.injEq] at h1
  have q1 : A.length = 2 := by rw [← h1]; exact lay_len _ _
  have q2 := eL_len hB h2
  simp only [List.length_append]
  omega
theorem eK_len {k : Nat} {v : Fv} {A : List Nat} (hk : k = 0 ∨ k = 1 ∨ k = 2 ∨ k = 3 ∨ k = 4 ∨ k = 5 ∨ k = 6) (h : eK k v = some A) : A.length ≤ 8590524407 := by
  rcases hk with rfl | rfl | rfl | rfl | rfl | rfl | rfl
  · have e : some (eInt v.n) = some A := h
    simp only [Option.some.injEq] at e
    rw [← e, eInt_len]; omega
  · have := eNat_len (show eNat 1 v.n = some A from h); omega
  · have := eText_len (show eText v.t = some A from h); omega
  · exact eRow_len (fun x A h => eRec_len h) (show eRow eRec v.rs = some A from h)
  · exact eRow_len (fun x A h => by have := eText_len h; omega) (show eRow eText v.nm = some A from h)
  · exact eRow_len (fun x A h => by simp only [Option.some.injEq] at h; rw [← h, eInt_len]; omega) (show eRow (fun x => some (eInt x)) v.ct = some A from h)
  · exact eRow_len (fun x A h => eBat_len h) (show eRow eBat v.bs = some A from h)
theorem eFs_len {b : Bd} : ∀ {r : List Nat} {L : List Nat}, eFs b r = some L → L.length ≤ r.length * 8590524407
  | [], L, h => by simp [eFs] at h; subst h; exact Nat.zero_le _
  | f :: r, L, h => by
    obtain ⟨A, C, h1, h2, rfl⟩ := oa_some h
    have := eK_len (kd_cases f) h1
    have := eFs_len h2
    simp only [List.length_append, List.length_cons]
    omega
theorem reqE_le {k i : Int} {b : Bd} {L : List Nat} (h : reqE k i b = some L) : L.length ≤ 100000000000 := by
  have hlen := rowQ_len (k := k)
  unfold reqE msgE at h
  cases hr : rowQ k with
  | none => rw [hr] at h; cases h
  | some r =>
    rw [hr] at h hlen
    simp only [rowOr, Option.getD_some] at h hlen
    split at h
    · cases h
    · obtain ⟨A, C, h1, h2, rfl⟩ := oa_some h
      obtain ⟨A1, A2, h3, h4, rfl⟩ := oa_some h1
      obtain ⟨A3, A4, h5, h6, rfl⟩ := oa_some h4
      simp [eNs] at h6
      subst h6
      have q1 := eNat_len h3
      have q2 := eNat_len h5
      have q3 := eFs_len h2
      simp only [List.length_append, List.length_nil]
      omega
theorem resE_le {k i d : Int} {b : Bd} {L : List Nat} (h : resE k i d b = some L) : L.length ≤ 100000000000 := by
  have hlen := ans_len (k := k) (d := d)
  unfold resE msgE at h
  cases hr : ansRow k d with
  | none => rw [hr] at h; cases h
  | some r =>
    rw [hr] at h hlen
    simp only [rowOr, Option.getD_some] at h hlen
    split at h
    · cases h
    · obtain ⟨A, C, h1, h2, rfl⟩ := oa_some h
      obtain ⟨A1, A2, h3, h4, rfl⟩ := oa_some h1
      obtain ⟨A3, A4, h5, h6, rfl⟩ := oa_some h4
      obtain ⟨A5, A6, h7, h8, rfl⟩ := oa_some h6
      simp [eNs] at h8
      subst h8
      have q1 := eNat_len h3
      have q2 := eNat_len h5
      have q4 := eNat_len h7
      have q3 := eFs_len h2
      simp only [List.length_append, List.length_nil]
      omega
theorem app_ok {w : World} {B : Nat} {v : Value} {L : List Nat} {c : Nat} (ho : w.ownsRow B 5 1 v (L.length + [c].length) (cv L ++ cv [c])) (hy : Byt L) (hc : c < 256) (hbig : L.length + 1 ≤ 1000000000000) : ∃ a k, v = .slice a (L.length + 1) k ∧ BOk w a k (L ++ [c]) := by
  have e : (L ++ [c]).length = L.length + 1 := by simp
  have e2 : cv (L ++ [c]) = cv L ++ cv [c] := by simp [cv]
  rw [← e2, show L.length + [c].length = (L ++ [c]).length from by simp] at ho
  obtain ⟨a, k, h1, h2⟩ := BOk.of_owns ho (Byt.app hy (fun x hx => by simp at hx; omega)) (by omega)
  rw [e] at h1
  exact ⟨a, k, h1, h2⟩
/-- Two boxes of what came in, the first that are new. -/
structure BxP (w : World) (cs ds : Array Value) (x : World) : Prop where
  a : x.heap[w.heap.size]? = some (.cells cs 26 (0, 0))
  b : x.heap[w.heap.size + 1]? = some (.cells ds 40 (0, 0))
  bel : Below w.heap.size w x
theorem BxP.new (w : World) (cs ds : Array Value) : BxP w cs ds ((w.alloc (.cells cs 26)).alloc (.cells ds 40)) := by
  have b1 : Below w.heap.size w (w.alloc (.cells cs 26)) := below_box _
  have b2 : Below (w.alloc (.cells cs 26)).heap.size (w.alloc (.cells cs 26)) ((w.alloc (.cells cs 26)).alloc (.cells ds 40)) := below_box _
  refine ⟨?_, ?_, b1.trans (b2.mono (by simp))⟩
  · rw [b2.block _ (by simp)]; exact heap_alloc_new w _
  · have := heap_alloc_new (w.alloc (.cells cs 26)) (.cells ds 40)
    simpa using this
theorem box_keep {x y : World} {B : Nat} {o : Obj} (h : x.heap[B]? = some o) (hb : Below x.heap.size x y) : y.heap[B]? = some o := (hb.block _ (Array.getElem?_eq_some_iff.1 h).1).trans h
theorem BxP.below {w x y : World} {cs ds : Array Value} (h : BxP w cs ds x) (hb : Below x.heap.size x y) : BxP w cs ds y :=
  ⟨box_keep h.a hb, box_keep h.b hb, h.bel.trans (hb.mono h.bel.size)⟩
theorem sameQ_yes {w x : World} {k i : Int} {b : Bd} {c : Bool} {ra : Option Addr} {rc : Nat} {cs : Array Value} (h : ReqIn w k i b c ra rc) (hb : Below w.heap.size w x) (hq : QVal x cs k i b) :
    Calls Tryd.prog 16 #[.agg cs, .agg (rqc k i b c ra rc)] x fun e w' => e = .returned (.bool true) ∧ Below x.heap.size x w' := by
  obtain ⟨ra', rc', rfl, hr⟩ := hq
  refine Calls.mono (sameQ_any k i k i b b _ c ra' ra rc' rc x hr (h.r.below hb) h.l) ?_
  rintro e w' ⟨⟨r, rfl, hr⟩, hb⟩
  have : r = true := hr.2 ⟨rfl, rfl, rfl, rfl, rfl, rfl, rfl, rfl, rfl, by rw [h.hb.c7]; cases c <;> rfl, rfl, rfl, rfl, rfl, rfl, rfl, rfl⟩
  exact ⟨by rw [this], hb⟩
theorem sameS_yes {w x : World} {k i d : Int} {b : Bd} {p : Pt} {cs : Array Value} (h : ResIn w k i d b p) (hb : Below w.heap.size w x) (hq : SVal x cs k i d b) :
    Calls Tryd.prog 19 #[.agg cs, .agg (rsc k i d b p)] x fun e w' => e = .returned (.bool true) ∧ Below x.heap.size x w' := by
  obtain ⟨p', rfl, hr⟩ := hq
  have m : reachBytes ≤ maxLen := by unfold reachBytes maxLen; omega
  refine Calls.mono (sameS_any k i d k i d b b p' p x hr (h.r.below hb) (fun _ => rfl) (fun _ => rfl) (fun _ => rfl) (Nat.le_trans h.ln m) (Nat.le_trans h.lc m) (Nat.le_trans h.lb m)) ?_
  rintro e w' ⟨⟨r, rfl, hr⟩, hb⟩
  have : r = true := hr.2 ⟨rfl, rfl, rfl, rfl, rfl, rfl, rfl, rfl, rfl⟩
  exact ⟨by rw [this], hb⟩
theorem ResIn.ok {w : World} {k i d : Int} {b : Bd} {p : Pt} (h : ResIn w k i d b p) (ht : Tab w) (h3 : (b 17).nm.length ≤ 300 ∧ (b 18).ct.length ≤ 300 ∧ (b 19).bs.length ≤ 300) : BdOk w b p :=
  h.r.ok ht h.z h.v (by omega) (by omega) (by omega) (fun x hx => by have := h.ne x hx; unfold maxLen at this; omega)
set_option maxHeartbeats 3000000 in
set_option maxRecDepth 100000 in
theorem back_nn (k0 i0 : Int) (b0 : Bd) (c0 : Bool) (ra0 : Option Addr) (rc0 : Nat) (k1 i1 d1' : Int) (b1 : Bd) (p1' : Pt) (w : World) (ht : Tab w) (w0 : ReqIn w k0 i0 b0 c0 ra0 rc0) (w1 : ResIn w k1 i1 d1' b1 p1') (hQ : reqE k0 i0 b0 = none) (hS : resE k1 i1 d1' b1 = none) : Calls Tryd.prog 4 #[.agg (rqc k0 i0 b0 c0 ra0 rc0), .agg (rsc k1 i1 d1' b1 p1')] w fun e w' => e = .returned (.bool true) ∧ Below w.heap.size w w' := by
  have HA : Hid (∀ x, Below w.heap.size w x → Calls Tryd.prog 10 #[] x fun e w' => e = .returned (.bool true) ∧ Below x.heap.size x w') := fun x h => awake_any x (ht.below h)
  have HI : Hid (∀ x, Below w.heap.size w x → Calls Tryd.prog 9 #[.agg (rqc k0 i0 b0 c0 ra0 rc0)] x fun e w' => IsB (b0 11).rs.length e ∧ Below x.heap.size x w') := fun x hx => in_any _ _ _ _ _ _ x (w0.below hx)
  have HJ : Hid (∀ x, Below w.heap.size w x → Calls Tryd.prog 14 #[.agg (rsc k1 i1 d1' b1 p1')] x fun e w' => IsS (b1 17).nm.length (b1 18).ct.length (b1 19).bs.length e ∧ Below x.heap.size x w') := fun x hx => inS_any _ _ _ _ _ x (w1.below hx)
  have HQ : Hid (∀ x, Below w.heap.size w x → (b0 11).rs.length ≤ 300 → Calls Tryd.prog 11 #[.agg (rqc k0 i0 b0 c0 ra0 rc0)] x fun e w' => e = .returned (.tuple #[.slice none 0 0, .int .i64 1]) ∧ Below x.heap.size x w') := fun x hx hl => by
    have q := request_any k0 i0 b0 c0 ra0 rc0 x w0.hk w0.hi w0.hb ((w0.below hx).ok (ht.below hx) (by omega))
    rw [hQ] at q
    exact Calls.mono q (fun e w' h => EncP.none h)
  have HR : Hid (∀ x, Below w.heap.size w x → ((b1 17).nm.length ≤ 300 ∧ (b1 18).ct.length ≤ 300 ∧ (b1 19).bs.length ≤ 300) → Calls Tryd.prog 17 #[.agg (rsc k1 i1 d1' b1 p1')] x fun e w' => e = .returned (.tuple #[.slice none 0 0, .int .i64 1]) ∧ Below x.heap.size x w') := fun x hx hl => by
    have q := response_any k1 i1 d1' b1 p1' x w1.hk w1.hi w1.hd ⟨w1.v, w1.z, w1.r.z⟩ ((w1.below hx).ok (ht.below hx) hl)
    rw [hS] at q
    exact Calls.mono q (fun e w' h => EncP.none h)
  have HB : Hid (BxP w (rqc k0 i0 b0 c0 ra0 rc0) (rsc k1 i1 d1' b1 p1') ((w.alloc (.cells (rqc k0 i0 b0 c0 ra0 rc0) 26)).alloc (.cells (rsc k1 i1 d1' b1 p1') 40))) := BxP.new _ _ _
  have HZ0 : Hid ((rqc k0 i0 b0 c0 ra0 rc0).size = 17) := rfl
  have HZ9 : Hid ((rsc k1 i1 d1' b1 p1').size = 9) := rfl
  have HEM : Hid (∀ x : World, (x.alloc (.cells #[] 5)).ownsRow x.heap.size 5 1 (.slice (some ⟨x.heap.size, 0, none⟩) 0 0) 0 []) := fun x => ⟨rfl, .inr ⟨x.heap.size, 0, #[], rfl, Nat.le_refl _, heap_alloc_new x _, Nat.le_refl _, by unfold maxLen; omega, rfl, rfl⟩⟩
  have t1 : True := trivial
  clear ht w0 w1 hQ hS
  generalize (rqc k0 i0 b0 c0 ra0 rc0) = cs0 at *
  generalize (rsc k1 i1 d1' b1 p1') = ds0 at *
  generalize (b0 11).rs.length = n at *
  generalize (b1 17).nm.length = n1 at *
  generalize (b1 18).ct.length = n2 at *
  generalize (b1 19).bs.length = n3 at *
  go_enter Tryd.func4, Tryd.ntmps4
  go_wp2_with (first
    | (have _h := t1; refine load_row_g (by rfl) 26 _ rfl w.heap.size rfl 26 cs0 (0, 0) _ HB.out.a Tryd.underlying26 rfl (by rw [HZ0.out]; exact Tryd.info26) ?_; clear _h t1; have t2 : True := trivial)
    | (go_at_call 9; refine (HI.out _ HB.out.bel).mono ?_; rintro e w1 ⟨⟨sm, rfl, hsm⟩, hb⟩; have HB' : Hid (BxP w cs0 ds0 w1) := BxP.below HB.out hb; clear HB; have HB : Hid (BxP w cs0 ds0 w1) := HB'; clear HB'; have HSM : Hid (sm = true → n ≤ 300) := hsm; clear hsm hb t2; have t3 : True := trivial; cases sm)
    | (have _h := t3; refine load_row_g (by rfl) 40 _ rfl (w.heap.size + 1) rfl 40 ds0 (0, 0) _ HB.out.b Tryd.underlying40 rfl (by rw [HZ9.out]; exact Tryd.info40) ?_; clear _h t3; have t4 : True := trivial)
    | (go_at_call 14; refine (HJ.out _ HB.out.bel).mono ?_; rintro e w2 ⟨⟨sn, rfl, hsn⟩, hb⟩; have HB' : Hid (BxP w cs0 ds0 w2) := BxP.below HB.out hb; clear HB; have HB : Hid (BxP w cs0 ds0 w2) := HB'; clear HB'; have HSN : Hid (sn = true → n1 ≤ 300 ∧ n2 ≤ 300 ∧ n3 ≤ 300) := hsn; clear hsn hb t4; have t5 : True := trivial; cases sn)
    | (have _h := t5; refine load_row_g (by rfl) 26 _ rfl w.heap.size rfl 26 cs0 (0, 0) _ HB.out.a Tryd.underlying26 rfl (by rw [HZ0.out]; exact Tryd.info26) ?_; clear _h t5; have t6 : True := trivial)
    | (go_at_call 11; refine (HQ.out _ HB.out.bel (HSM.out (by trivial))).mono ?_; rintro e w3 ⟨rfl, hb⟩; have HB' : Hid (BxP w cs0 ds0 w3) := BxP.below HB.out hb; clear HB; have HB : Hid (BxP w cs0 ds0 w3) := HB'; clear HB'; clear hb t6; have t20 : True := trivial)
    | (have _h := t20; refine load_row_g (by rfl) 40 _ rfl (w.heap.size + 1) rfl 40 ds0 (0, 0) _ HB.out.b Tryd.underlying40 rfl (by rw [HZ9.out]; exact Tryd.info40) ?_; clear _h t20; have t21 : True := trivial)
    | (go_at_call 17; refine (HR.out _ HB.out.bel (HSN.out (by trivial))).mono ?_; rintro e v3 ⟨rfl, hb⟩; have HB' : Hid (BxP w cs0 ds0 v3) := BxP.below HB.out hb; clear HB; have HB : Hid (BxP w cs0 ds0 v3) := HB'; clear HB'; clear hb t21)
    | (go_at_call 10; refine (HA.out _ HB.out.bel).mono ?_; rintro e vz ⟨rfl, hb⟩; have HBz : Hid (Below w.heap.size w vz) := HB.out.bel.trans (hb.mono HB.out.bel.size); clear hb))
  all_goals (go_ret; exact ⟨rfl, HBz.out⟩)
set_option maxHeartbeats 3000000 in
set_option maxRecDepth 100000 in
theorem back_ny (k0 i0 : Int) (b0 : Bd) (c0 : Bool) (ra0 : Option Addr) (rc0 : Nat) (k1 i1 d1' : Int) (b1 : Bd) (p1' : Pt) (w : World) (ht : Tab w) (w0 : ReqIn w k0 i0 b0 c0 ra0 rc0) (w1 : ResIn w k1 i1 d1' b1 p1') (hQ : reqE k0 i0 b0 = none) (M : List Nat) (hS : resE k1 i1 d1' b1 = some M) : Calls Tryd.prog 4 #[.agg (rqc k0 i0 b0 c0 ra0 rc0), .agg (rsc k1 i1 d1' b1 p1')] w fun e w' => e = .returned (.bool true) ∧ Below w.heap.size w w' := by
  have HA : Hid (∀ x, Below w.heap.size w x → Calls Tryd.prog 10 #[] x fun e w' => e = .returned (.bool true) ∧ Below x.heap.size x w') := fun x h => awake_any x (ht.below h)
  have HI : Hid (∀ x, Below w.heap.size w x → Calls Tryd.prog 9 #[.agg (rqc k0 i0 b0 c0 ra0 rc0)] x fun e w' => IsB (b0 11).rs.length e ∧ Below x.heap.size x w') := fun x hx => in_any _ _ _ _ _ _ x (w0.below hx)
  have HJ : Hid (∀ x, Below w.heap.size w x → Calls Tryd.prog 14 #[.agg (rsc k1 i1 d1' b1 p1')] x fun e w' => IsS (b1 17).nm.length (b1 18).ct.length (b1 19).bs.length e ∧ Below x.heap.size x w') := fun x hx => inS_any _ _ _ _ _ x (w1.below hx)
  have HQ : Hid (∀ x, Below w.heap.size w x → (b0 11).rs.length ≤ 300 → Calls Tryd.prog 11 #[.agg (rqc k0 i0 b0 c0 ra0 rc0)] x fun e w' => e = .returned (.tuple #[.slice none 0 0, .int .i64 1]) ∧ Below x.heap.size x w') := fun x hx hl => by
    have q := request_any k0 i0 b0 c0 ra0 rc0 x w0.hk w0.hi w0.hb ((w0.below hx).ok (ht.below hx) (by omega))
    rw [hQ] at q
    exact Calls.mono q (fun e w' h => EncP.none h)
  have HR : Hid (∀ x, Below w.heap.size w x → ((b1 17).nm.length ≤ 300 ∧ (b1 18).ct.length ≤ 300 ∧ (b1 19).bs.length ≤ 300) → Calls Tryd.prog 17 #[.agg (rsc k1 i1 d1' b1 p1')] x fun e w' => (∃ a c, e = .returned (.tuple #[.slice a M.length c, .int .i64 0]) ∧ BOk w' a c M) ∧ Below x.heap.size x w') := fun x hx hl => by
    have q := response_any k1 i1 d1' b1 p1' x w1.hk w1.hi w1.hd ⟨w1.v, w1.z, w1.r.z⟩ ((w1.below hx).ok (ht.below hx) hl)
    rw [hS] at q
    refine Calls.mono q (fun e w' h => ?_)
    obtain ⟨a, c, e1, r, b⟩ := EncP.some2 h
    exact ⟨⟨a, c, e1, r⟩, b⟩
  obtain ⟨CY, HCY⟩ : ∃ CY : Array Value, Hid (z40 = CY) := ⟨_, rfl⟩
  have HY1 : Hid (CY.size = 9) := by rw [← HCY.out]; rfl
  have HY2 : Hid (CY.all (·.oneCell') = true) := by show _ = _; rw [← HCY.out]; kernel_rfl
  have HU1 : Hid (∀ x a c, Below w.heap.size w x → BOk x a c M → Calls Tryd.prog 18 #[.slice a M.length c] x fun e w' => (∃ cs, e = .returned (.tuple #[.agg cs, .int .i64 0]) ∧ SVal w' cs k1 i1 d1' b1) ∧ Below x.heap.size x w') := fun x a c hx hk => parseS_val x a c M (ht.below hx) hk (resP_back w1.v hS)
  have HU2 : Hid (∀ x a c, Below w.heap.size w x → BOk x a c (M ++ [0]) → Calls Tryd.prog 18 #[.slice a (M.length + 1) c] x fun e w' => e = .returned (.tuple #[.agg CY, .int .i64 13]) ∧ Below x.heap.size x w') := fun x a c hx hk => by
    have q := parseS_no x a c (M ++ [0]) (ht.below hx) hk (resP_more w1.v hS [0] (by decide))
    rw [List.length_append] at q
    rw [← HCY.out]
    exact q
  have HSS : Hid (∀ x cs, Below w.heap.size w x → SVal x cs k1 i1 d1' b1 → Calls Tryd.prog 19 #[.agg cs, .agg (rsc k1 i1 d1' b1 p1')] x fun e w' => e = .returned (.bool true) ∧ Below x.heap.size x w') := fun x cs hx hq => sameS_yes w1 hx hq
  have HMB : Hid (∀ x a c, BOk x a c M → Byt M ∧ Row x a M ∧ (a = none → c = 0)) := fun x a c h => ⟨h.row.bd, h.row, h.nil⟩
  have HML : Hid (M.length ≤ 100000000000) := resE_le hS
  have HB : Hid (BxP w (rqc k0 i0 b0 c0 ra0 rc0) (rsc k1 i1 d1' b1 p1') ((w.alloc (.cells (rqc k0 i0 b0 c0 ra0 rc0) 26)).alloc (.cells (rsc k1 i1 d1' b1 p1') 40))) := BxP.new _ _ _
  have HZ0 : Hid ((rqc k0 i0 b0 c0 ra0 rc0).size = 17) := rfl
  have HZ9 : Hid ((rsc k1 i1 d1' b1 p1').size = 9) := rfl
  have HEM : Hid (∀ x : World, (x.alloc (.cells #[] 5)).ownsRow x.heap.size 5 1 (.slice (some ⟨x.heap.size, 0, none⟩) 0 0) 0 []) := fun x => ⟨rfl, .inr ⟨x.heap.size, 0, #[], rfl, Nat.le_refl _, heap_alloc_new x _, Nat.le_refl _, by unfold maxLen; omega, rfl, rfl⟩⟩
  have t1 : True := trivial
  clear ht w0 w1 hQ hS
  generalize (rqc k0 i0 b0 c0 ra0 rc0) = cs0 at *
  generalize (rsc k1 i1 d1' b1 p1') = ds0 at *
  generalize (b0 11).rs.length = n at *
  generalize (b1 17).nm.length = n1 at *
  generalize (b1 18).ct.length = n2 at *
  generalize (b1 19).bs.length = n3 at *
  go_enter Tryd.func4, Tryd.ntmps4
  go_wp2_with (first
    | (have _h := t1; refine load_row_g (by rfl) 26 _ rfl w.heap.size rfl 26 cs0 (0, 0) _ HB.out.a Tryd.underlying26 rfl (by rw [HZ0.out]; exact Tryd.info26) ?_; clear _h t1; have t2 : True := trivial)
    | (go_at_call 9; refine (HI.out _ HB.out.bel).mono ?_; rintro e w1 ⟨⟨sm, rfl, hsm⟩, hb⟩; have HB' : Hid (BxP w cs0 ds0 w1) := BxP.below HB.out hb; clear HB; have HB : Hid (BxP w cs0 ds0 w1) := HB'; clear HB'; have HSM : Hid (sm = true → n ≤ 300) := hsm; clear hsm hb t2; have t3 : True := trivial; cases sm)
    | (have _h := t3; refine load_row_g (by rfl) 40 _ rfl (w.heap.size + 1) rfl 40 ds0 (0, 0) _ HB.out.b Tryd.underlying40 rfl (by rw [HZ9.out]; exact Tryd.info40) ?_; clear _h t3; have t4 : True := trivial)
    | (go_at_call 14; refine (HJ.out _ HB.out.bel).mono ?_; rintro e w2 ⟨⟨sn, rfl, hsn⟩, hb⟩; have HB' : Hid (BxP w cs0 ds0 w2) := BxP.below HB.out hb; clear HB; have HB : Hid (BxP w cs0 ds0 w2) := HB'; clear HB'; have HSN : Hid (sn = true → n1 ≤ 300 ∧ n2 ≤ 300 ∧ n3 ≤ 300) := hsn; clear hsn hb t4; have t5 : True := trivial; cases sn)
    | (have _h := t5; refine load_row_g (by rfl) 26 _ rfl w.heap.size rfl 26 cs0 (0, 0) _ HB.out.a Tryd.underlying26 rfl (by rw [HZ0.out]; exact Tryd.info26) ?_; clear _h t5; have t6 : True := trivial)
    | (go_at_call 11; refine (HQ.out _ HB.out.bel (HSM.out (by trivial))).mono ?_; rintro e w3 ⟨rfl, hb⟩; have HB' : Hid (BxP w cs0 ds0 w3) := BxP.below HB.out hb; clear HB; have HB : Hid (BxP w cs0 ds0 w3) := HB'; clear HB'; clear hb t6; have t20 : True := trivial)
    | (have _h := t20; refine load_row_g (by rfl) 40 _ rfl (w.heap.size + 1) rfl 40 ds0 (0, 0) _ HB.out.b Tryd.underlying40 rfl (by rw [HZ9.out]; exact Tryd.info40) ?_; clear _h t20; have t21 : True := trivial)
    | (go_at_call 17; refine (HR.out _ HB.out.bel (HSN.out (by trivial))).mono ?_; rintro e v3 ⟨⟨d3, f3, rfl, hk⟩, hb⟩; have HB' : Hid (BxP w cs0 ds0 v3) := BxP.below HB.out hb; clear HB; have HB : Hid (BxP w cs0 ds0 v3) := HB'; clear HB'; have HM : Hid (BOk v3 d3 f3 M) := hk; clear hk hb t21; have t22 : True := trivial)
    | (have _h := t22; go_at_call 18; refine (HU1.out _ _ _ HB.out.bel HM.out).mono ?_; rintro e v4 ⟨⟨ds, rfl, hq⟩, hb⟩; have HB' : Hid (BxP w cs0 ds0 v4) := BxP.below HB.out hb; clear HB; have HB : Hid (BxP w cs0 ds0 v4) := HB'; clear HB'; have HM' : Hid (BOk v4 d3 f3 M) := BOk.below HM.out hb; clear HM; have HM : Hid (BOk v4 d3 f3 M) := HM'; clear HM'; have HW : Hid (SVal v4 ds k1 i1 d1' b1) := hq; have HD1 : Hid (ds.size = 9) := hq.size; have HD2 : Hid (ds.all (·.oneCell') = true) := hq.one; clear hq hb _h t22; have t23 : True := trivial)
    | (have _h := t23; refine wpList_store_row rfl 40 _ _ rfl v4.heap.size ds rfl rfl 40 #[.int .i64 0, .int .i64 0, .int .i64 0, .int .i64 0, .int .i64 0, .int .i64 0, .slice none 0 0, .slice none 0 0, .slice none 0 0] (heap_alloc_new v4 _) (by rw [HD1.out]; exact Tryd.info40) (by rw [HD1.out]; rfl) HD2.out ?_; obtain ⟨hx9, hb⟩ := box_new v4 #[.int .i64 0, .int .i64 0, .int .i64 0, .int .i64 0, .int .i64 0, .int .i64 0, .slice none 0 0, .slice none 0 0, .slice none 0 0] ds 40; generalize World.setRow _ v4.heap.size ds = v5 at *; have HB' : Hid (BxP w cs0 ds0 v5) := BxP.below HB.out hb; clear HB; have HB : Hid (BxP w cs0 ds0 v5) := HB'; clear HB'; have HM' : Hid (BOk v5 d3 f3 M) := BOk.below HM.out hb; clear HM; have HM : Hid (BOk v5 d3 f3 M) := HM'; clear HM'; have HW' : Hid (SVal v5 ds k1 i1 d1' b1) := SVal.below HW.out hb; clear HW; have HW : Hid (SVal v5 ds k1 i1 d1' b1) := HW'; clear HW'; have HO : Hid (v5.heap[v4.heap.size]? = some (.cells ds 40 (0, 0))) := hx9; have t24 : True := trivial; clear hx9 hb _h t23)
    | (at_builtin; have _t := t24; refine wpList_append_big (by rfl) _ _ rfl v5.heap.size v5 _ _ _ rfl (HEM.out v5) (below_box _) (by simp) d3 f3 M rfl (Row.below (HMB.out _ _ _ HM.out).2.1 (below_box _)) (HMB.out _ _ _ HM.out).2.2 (by have := HML.out; omega) ?_; clear t24 _t; intro v6' v6 hown6 hb6; rw [Nat.zero_add, List.nil_append] at hown6; have t25 : True := trivial)
    | (at_builtin; have _t := t25; refine wpList_append_big (by rfl) _ _ rfl v5.heap.size v5 _ _ _ rfl (own_any hown6 (below_box _)) (hb6.trans ((below_box _).mono hb6.size)) (by have := hb6.size; simp; omega) (some ⟨v6.heap.size, 0, none⟩) 1 [0] rfl (head_row v6 0 (by decide)).1 (fun c => by cases c) (by have := HML.out; simp only [List.length_cons, List.length_nil]; omega) ?_; clear t25 _t; intro v7' v7 hown7 hb; obtain ⟨d7, f7, rfl, hk7⟩ := app_ok hown7 (HMB.out _ _ _ HM.out).1 (by decide) (by have := HML.out; omega); have HB' : Hid (BxP w cs0 ds0 v7) := BxP.below HB.out hb; clear HB; have HB : Hid (BxP w cs0 ds0 v7) := HB'; clear HB'; have HM' : Hid (BOk v7 d3 f3 M) := BOk.below HM.out hb; clear HM; have HM : Hid (BOk v7 d3 f3 M) := HM'; clear HM'; have HW' : Hid (SVal v7 ds k1 i1 d1' b1) := SVal.below HW.out hb; clear HW; have HW : Hid (SVal v7 ds k1 i1 d1' b1) := HW'; clear HW'; have HO' : Hid (v7.heap[v4.heap.size]? = some (.cells ds 40 (0, 0))) := box_keep HO.out hb; clear HO; have HO : Hid (v7.heap[v4.heap.size]? = some (.cells ds 40 (0, 0))) := HO'; clear HO'; have HM7 : Hid (BOk v7 d7 f7 (M ++ [0])) := hk7; clear hown6 hb6 hown7 hb hk7; have t26 : True := trivial)
    | (have _h := t26; go_at_call 18; refine (HU2.out _ _ _ HB.out.bel HM7.out).mono ?_; rintro e v8 ⟨rfl, hb⟩; have HB' : Hid (BxP w cs0 ds0 v8) := BxP.below HB.out hb; clear HB; have HB : Hid (BxP w cs0 ds0 v8) := HB'; clear HB'; have HM' : Hid (BOk v8 d3 f3 M) := BOk.below HM.out hb; clear HM; have HM : Hid (BOk v8 d3 f3 M) := HM'; clear HM'; have HW' : Hid (SVal v8 ds k1 i1 d1' b1) := SVal.below HW.out hb; clear HW; have HW : Hid (SVal v8 ds k1 i1 d1' b1) := HW'; clear HW'; have HO' : Hid (v8.heap[v4.heap.size]? = some (.cells ds 40 (0, 0))) := box_keep HO.out hb; clear HO; have HO : Hid (v8.heap[v4.heap.size]? = some (.cells ds 40 (0, 0))) := HO'; clear HO'; clear hb _h t26 HM7; have t27 : True := trivial)
    | (have _h := t27; refine wpList_store_row rfl 40 _ _ rfl v8.heap.size CY rfl rfl 40 #[.int .i64 0, .int .i64 0, .int .i64 0, .int .i64 0, .int .i64 0, .int .i64 0, .slice none 0 0, .slice none 0 0, .slice none 0 0] (heap_alloc_new v8 _) (by rw [HY1.out]; exact Tryd.info40) (by rw [HY1.out]; rfl) HY2.out ?_; obtain ⟨hx9, hb⟩ := box_new v8 #[.int .i64 0, .int .i64 0, .int .i64 0, .int .i64 0, .int .i64 0, .int .i64 0, .slice none 0 0, .slice none 0 0, .slice none 0 0] CY 40; generalize World.setRow _ v8.heap.size CY = v9 at *; have HB' : Hid (BxP w cs0 ds0 v9) := BxP.below HB.out hb; clear HB; have HB : Hid (BxP w cs0 ds0 v9) := HB'; clear HB'; have HM' : Hid (BOk v9 d3 f3 M) := BOk.below HM.out hb; clear HM; have HM : Hid (BOk v9 d3 f3 M) := HM'; clear HM'; have HW' : Hid (SVal v9 ds k1 i1 d1' b1) := SVal.below HW.out hb; clear HW; have HW : Hid (SVal v9 ds k1 i1 d1' b1) := HW'; clear HW'; have HO' : Hid (v9.heap[v4.heap.size]? = some (.cells ds 40 (0, 0))) := box_keep HO.out hb; clear HO; have HO : Hid (v9.heap[v4.heap.size]? = some (.cells ds 40 (0, 0))) := HO'; clear HO'; have t28 : True := trivial; clear hx9 hb _h t27)
    | (have _h := t28; refine load_row_g (by rfl) 40 _ rfl v4.heap.size rfl 40 ds (0, 0) _ HO.out Tryd.underlying40 rfl (by rw [HD1.out]; exact Tryd.info40) ?_; clear _h t28; have t29 : True := trivial)
    | (have _h := t29; refine load_row_g (by rfl) 40 _ rfl (w.heap.size + 1) rfl 40 ds0 (0, 0) _ HB.out.b Tryd.underlying40 rfl (by rw [HZ9.out]; exact Tryd.info40) ?_; clear _h t29; have t30 : True := trivial)
    | (go_at_call 19; refine (HSS.out _ _ HB.out.bel HW.out).mono ?_; rintro e va ⟨rfl, hb⟩; have HB' : Hid (BxP w cs0 ds0 va) := BxP.below HB.out hb; clear HB; have HB : Hid (BxP w cs0 ds0 va) := HB'; clear HB'; have HM' : Hid (BOk va d3 f3 M) := BOk.below HM.out hb; clear HM; have HM : Hid (BOk va d3 f3 M) := HM'; clear HM'; have HW' : Hid (SVal va ds k1 i1 d1' b1) := SVal.below HW.out hb; clear HW; have HW : Hid (SVal va ds k1 i1 d1' b1) := HW'; clear HW'; have HO' : Hid (va.heap[v4.heap.size]? = some (.cells ds 40 (0, 0))) := box_keep HO.out hb; clear HO; have HO : Hid (va.heap[v4.heap.size]? = some (.cells ds 40 (0, 0))) := HO'; clear HO'; clear hb t30)
    | (go_at_call 10; refine (HA.out _ HB.out.bel).mono ?_; rintro e vz ⟨rfl, hb⟩; have HBz : Hid (Below w.heap.size w vz) := HB.out.bel.trans (hb.mono HB.out.bel.size); clear hb))
  all_goals (go_ret; exact ⟨rfl, HBz.out⟩)
set_option maxHeartbeats 3000000 in
set_option maxRecDepth 100000 in
theorem back_yn (k0 i0 : Int) (b0 : Bd) (c0 : Bool) (ra0 : Option Addr) (rc0 : Nat) (k1 i1 d1' : Int) (b1 : Bd) (p1' : Pt) (w : World) (ht : Tab w) (w0 : ReqIn w k0 i0 b0 c0 ra0 rc0) (w1 : ResIn w k1 i1 d1' b1 p1') (L : List Nat) (hQ : reqE k0 i0 b0 = some L) (hS : resE k1 i1 d1' b1 = none) : Calls Tryd.prog 4 #[.agg (rqc k0 i0 b0 c0 ra0 rc0), .agg (rsc k1 i1 d1' b1 p1')] w fun e w' => e = .returned (.bool true) ∧ Below w.heap.size w w' := by
  have HA : Hid (∀ x, Below w.heap.size w x → Calls Tryd.prog 10 #[] x fun e w' => e = .returned (.bool true) ∧ Below x.heap.size x w') := fun x h => awake_any x (ht.below h)
  have HI : Hid (∀ x, Below w.heap.size w x → Calls Tryd.prog 9 #[.agg (rqc k0 i0 b0 c0 ra0 rc0)] x fun e w' => IsB (b0 11).rs.length e ∧ Below x.heap.size x w') := fun x hx => in_any _ _ _ _ _ _ x (w0.below hx)
  have HJ : Hid (∀ x, Below w.heap.size w x → Calls Tryd.prog 14 #[.agg (rsc k1 i1 d1' b1 p1')] x fun e w' => IsS (b1 17).nm.length (b1 18).ct.length (b1 19).bs.length e ∧ Below x.heap.size x w') := fun x hx => inS_any _ _ _ _ _ x (w1.below hx)
  have HQ : Hid (∀ x, Below w.heap.size w x → (b0 11).rs.length ≤ 300 → Calls Tryd.prog 11 #[.agg (rqc k0 i0 b0 c0 ra0 rc0)] x fun e w' => (∃ a c, e = .returned (.tuple #[.slice a L.length c, .int .i64 0]) ∧ BOk w' a c L) ∧ Below x.heap.size x w') := fun x hx hl => by
    have q := request_any k0 i0 b0 c0 ra0 rc0 x w0.hk w0.hi w0.hb ((w0.below hx).ok (ht.below hx) (by omega))
    rw [hQ] at q
    refine Calls.mono q (fun e w' h => ?_)
    obtain ⟨a, c, e1, r, b⟩ := EncP.some2 h
    exact ⟨⟨a, c, e1, r⟩, b⟩
  obtain ⟨m, hm⟩ : ∃ m, L.length = m + 1 := ⟨L.length - 1, by have := reqE_len hQ; omega⟩
  obtain ⟨CZ, HCZ⟩ : ∃ CZ : Array Value, Hid (z26 = CZ) := ⟨_, rfl⟩
  have HZ1 : Hid (CZ.size = 17) := by rw [← HCZ.out]; rfl
  have HZ2 : Hid (CZ.all (·.oneCell') = true) := by show _ = _; rw [← HCZ.out]; kernel_rfl
  have HP1 : Hid (∀ x a c, Below w.heap.size w x → BOk x a c L → Calls Tryd.prog 15 #[.slice a L.length c] x fun e w' => (∃ cs, e = .returned (.tuple #[.agg cs, .int .i64 0]) ∧ QVal w' cs k0 i0 b0) ∧ Below x.heap.size x w') := fun x a c hx hk => parseQ_val x a c L (ht.below hx) hk (reqP_back w0.hb.v hQ)
  have HP2 : Hid (∀ x a c, Below w.heap.size w x → BOk x a c (L ++ [0]) → Calls Tryd.prog 15 #[.slice a (L.length + 1) c] x fun e w' => e = .returned (.tuple #[.agg CZ, .int .i64 13]) ∧ Below x.heap.size x w') := fun x a c hx hk => by
    have q := parseQ_no x a c (L ++ [0]) (ht.below hx) hk (reqP_more w0.hb.v hQ [0] (by decide))
    rw [List.length_append] at q
    rw [← HCZ.out]
    exact q
  have HP3 : Hid (∀ x a c, Below w.heap.size w x → BOk x a c L → Calls Tryd.prog 15 #[.slice a m c] x fun e w' => e = .returned (.tuple #[.agg CZ, .int .i64 13]) ∧ Below x.heap.size x w') := fun x a c hx hk => by
    have e1 : (L.take m).length = m := by rw [List.length_take]; omega
    have q := parseQ_no x a c (L.take m) (ht.below hx) ⟨row_take m hk.row, by have := hk.len; omega, hk.cap, hk.nil, by have := hk.big; omega⟩ (reqP_cut hk.row.bd w0.hb.v hQ m (by omega))
    rw [e1] at q
    rw [← HCZ.out]
    exact q
  have HSQ : Hid (∀ x cs, Below w.heap.size w x → QVal x cs k0 i0 b0 → Calls Tryd.prog 16 #[.agg cs, .agg (rqc k0 i0 b0 c0 ra0 rc0)] x fun e w' => e = .returned (.bool true) ∧ Below x.heap.size x w') := fun x cs hx hq => sameQ_yes w0 hx hq
  have HLB : Hid (∀ x a c, BOk x a c L → L.length ≤ c ∧ Byt L ∧ Row x a L ∧ (a = none → c = 0)) := fun x a c h => ⟨h.len, h.row.bd, h.row, h.nil⟩
  have HL : Hid (L.length ≤ 100000000000) := reqE_le hQ
  have HR : Hid (∀ x, Below w.heap.size w x → ((b1 17).nm.length ≤ 300 ∧ (b1 18).ct.length ≤ 300 ∧ (b1 19).bs.length ≤ 300) → Calls Tryd.prog 17 #[.agg (rsc k1 i1 d1' b1 p1')] x fun e w' => e = .returned (.tuple #[.slice none 0 0, .int .i64 1]) ∧ Below x.heap.size x w') := fun x hx hl => by
    have q := response_any k1 i1 d1' b1 p1' x w1.hk w1.hi w1.hd ⟨w1.v, w1.z, w1.r.z⟩ ((w1.below hx).ok (ht.below hx) hl)
    rw [hS] at q
    exact Calls.mono q (fun e w' h => EncP.none h)
  have HB : Hid (BxP w (rqc k0 i0 b0 c0 ra0 rc0) (rsc k1 i1 d1' b1 p1') ((w.alloc (.cells (rqc k0 i0 b0 c0 ra0 rc0) 26)).alloc (.cells (rsc k1 i1 d1' b1 p1') 40))) := BxP.new _ _ _
  have HZ0 : Hid ((rqc k0 i0 b0 c0 ra0 rc0).size = 17) := rfl
  have HZ9 : Hid ((rsc k1 i1 d1' b1 p1').size = 9) := rfl
  have HEM : Hid (∀ x : World, (x.alloc (.cells #[] 5)).ownsRow x.heap.size 5 1 (.slice (some ⟨x.heap.size, 0, none⟩) 0 0) 0 []) := fun x => ⟨rfl, .inr ⟨x.heap.size, 0, #[], rfl, Nat.le_refl _, heap_alloc_new x _, Nat.le_refl _, by unfold maxLen; omega, rfl, rfl⟩⟩
  have t1 : True := trivial
  clear ht w0 w1 hQ hS
  have HNM : Hid (L.length = m + 1) := hm
  have hn0 : ¬ ((L.length : Int) = 0) := by omega
  have hn1 : ((L.length : Int) == 0) = false := beq_eq_false_iff_ne.2 hn0
  have e1 : IntKind.i64.wrap ((L.length : Int) - 1) = (m : Int) := by have := HL.out; rw [IntKind.wrap_i64]; omega
  clear hm
  generalize (rqc k0 i0 b0 c0 ra0 rc0) = cs0 at *
  generalize (rsc k1 i1 d1' b1 p1') = ds0 at *
  generalize (b0 11).rs.length = n at *
  generalize (b1 17).nm.length = n1 at *
  generalize (b1 18).ct.length = n2 at *
  generalize (b1 19).bs.length = n3 at *
  go_enter Tryd.func4, Tryd.ntmps4
  go_wp2_with (first
    | (have _h := t1; refine load_row_g (by rfl) 26 _ rfl w.heap.size rfl 26 cs0 (0, 0) _ HB.out.a Tryd.underlying26 rfl (by rw [HZ0.out]; exact Tryd.info26) ?_; clear _h t1; have t2 : True := trivial)
    | (go_at_call 9; refine (HI.out _ HB.out.bel).mono ?_; rintro e w1 ⟨⟨sm, rfl, hsm⟩, hb⟩; have HB' : Hid (BxP w cs0 ds0 w1) := BxP.below HB.out hb; clear HB; have HB : Hid (BxP w cs0 ds0 w1) := HB'; clear HB'; have HSM : Hid (sm = true → n ≤ 300) := hsm; clear hsm hb t2; have t3 : True := trivial; cases sm)
    | (have _h := t3; refine load_row_g (by rfl) 40 _ rfl (w.heap.size + 1) rfl 40 ds0 (0, 0) _ HB.out.b Tryd.underlying40 rfl (by rw [HZ9.out]; exact Tryd.info40) ?_; clear _h t3; have t4 : True := trivial)
    | (go_at_call 14; refine (HJ.out _ HB.out.bel).mono ?_; rintro e w2 ⟨⟨sn, rfl, hsn⟩, hb⟩; have HB' : Hid (BxP w cs0 ds0 w2) := BxP.below HB.out hb; clear HB; have HB : Hid (BxP w cs0 ds0 w2) := HB'; clear HB'; have HSN : Hid (sn = true → n1 ≤ 300 ∧ n2 ≤ 300 ∧ n3 ≤ 300) := hsn; clear hsn hb t4; have t5 : True := trivial; cases sn)
    | (have _h := t5; refine load_row_g (by rfl) 26 _ rfl w.heap.size rfl 26 cs0 (0, 0) _ HB.out.a Tryd.underlying26 rfl (by rw [HZ0.out]; exact Tryd.info26) ?_; clear _h t5; have t6 : True := trivial)
    | (go_at_call 11; refine (HQ.out _ HB.out.bel (HSM.out (by trivial))).mono ?_; rintro e w3 ⟨⟨a3, c3, rfl, hk⟩, hb⟩; have HB' : Hid (BxP w cs0 ds0 w3) := BxP.below HB.out hb; clear HB; have HB : Hid (BxP w cs0 ds0 w3) := HB'; clear HB'; have HK : Hid (BOk w3 a3 c3 L) := hk; have kt : ∀ y, (Instr.slice 29 (.slice a3 L.length c3) none (some (.int .i64 (m : Int))) none).run Tryd.prog y = .ok (.slice a3 m c3) y := (fun y => run_slice_to y a3 L.length c3 m (by have := HNM.out; omega) (HLB.out _ _ _ hk).1); clear hk hb t6; have t7 : True := trivial)
    | (have _h := t7; go_at_call 15; refine (HP1.out _ _ _ HB.out.bel HK.out).mono ?_; rintro e w4 ⟨⟨cs, rfl, hq⟩, hb⟩; have HB' : Hid (BxP w cs0 ds0 w4) := BxP.below HB.out hb; clear HB; have HB : Hid (BxP w cs0 ds0 w4) := HB'; clear HB'; have HK' : Hid (BOk w4 a3 c3 L) := BOk.below HK.out hb; clear HK; have HK : Hid (BOk w4 a3 c3 L) := HK'; clear HK'; have HV : Hid (QVal w4 cs k0 i0 b0) := hq; have HC1 : Hid (cs.size = 17) := hq.size; have HC2 : Hid (cs.all (·.oneCell') = true) := hq.one; clear hq hb _h t7; have t8 : True := trivial)
    | (have _h := t8; refine wpList_store_row rfl 26 _ _ rfl w4.heap.size cs rfl rfl 26 #[.int .i64 0, .int .i64 0, .string ⟨#[]⟩, .int .i64 0, .int .i64 0, .int .i64 0, .int .i64 0, .int .i64 0, .bool false, .int .i64 0, .int .i64 0, .int .i64 0, .slice none 0 0, .int .i64 0, .int .i64 0, .int .i64 0, .string ⟨#[]⟩] (heap_alloc_new w4 _) (by rw [HC1.out]; exact Tryd.info26) (by rw [HC1.out]; rfl) HC2.out ?_; obtain ⟨hx9, hb⟩ := box_new w4 #[.int .i64 0, .int .i64 0, .string ⟨#[]⟩, .int .i64 0, .int .i64 0, .int .i64 0, .int .i64 0, .int .i64 0, .bool false, .int .i64 0, .int .i64 0, .int .i64 0, .slice none 0 0, .int .i64 0, .int .i64 0, .int .i64 0, .string ⟨#[]⟩] cs 26; generalize World.setRow _ w4.heap.size cs = w5 at *; have HB' : Hid (BxP w cs0 ds0 w5) := BxP.below HB.out hb; clear HB; have HB : Hid (BxP w cs0 ds0 w5) := HB'; clear HB'; have HK' : Hid (BOk w5 a3 c3 L) := BOk.below HK.out hb; clear HK; have HK : Hid (BOk w5 a3 c3 L) := HK'; clear HK'; have HV' : Hid (QVal w5 cs k0 i0 b0) := QVal.below HV.out hb; clear HV; have HV : Hid (QVal w5 cs k0 i0 b0) := HV'; clear HV'; have HX : Hid (w5.heap[w4.heap.size]? = some (.cells cs 26 (0, 0))) := hx9; have t9 : True := trivial; clear hx9 hb _h t8)
    | (at_builtin; have _t := t9; refine wpList_append_big (by rfl) _ _ rfl w5.heap.size w5 _ _ _ rfl (HEM.out w5) (below_box _) (by simp) a3 c3 L rfl (Row.below (HLB.out _ _ _ HK.out).2.2.1 (below_box _)) (HLB.out _ _ _ HK.out).2.2.2 (by have := HL.out; omega) ?_; clear t9 _t; intro v6 w6 hown6 hb6; rw [Nat.zero_add, List.nil_append] at hown6; have t10 : True := trivial)
    | (at_builtin; have _t := t10; refine wpList_append_big (by rfl) _ _ rfl w5.heap.size w5 _ _ _ rfl (own_any hown6 (below_box _)) (hb6.trans ((below_box _).mono hb6.size)) (by have := hb6.size; simp; omega) (some ⟨w6.heap.size, 0, none⟩) 1 [0] rfl (head_row w6 0 (by decide)).1 (fun c => by cases c) (by have := HL.out; simp only [List.length_cons, List.length_nil]; omega) ?_; clear t10 _t; intro v7 w7 hown7 hb; obtain ⟨a7, c7, rfl, hk7⟩ := app_ok hown7 (HLB.out _ _ _ HK.out).2.1 (by decide) (by have := HL.out; omega); have HB' : Hid (BxP w cs0 ds0 w7) := BxP.below HB.out hb; clear HB; have HB : Hid (BxP w cs0 ds0 w7) := HB'; clear HB'; have HK' : Hid (BOk w7 a3 c3 L) := BOk.below HK.out hb; clear HK; have HK : Hid (BOk w7 a3 c3 L) := HK'; clear HK'; have HV' : Hid (QVal w7 cs k0 i0 b0) := QVal.below HV.out hb; clear HV; have HV : Hid (QVal w7 cs k0 i0 b0) := HV'; clear HV'; have HX' : Hid (w7.heap[w4.heap.size]? = some (.cells cs 26 (0, 0))) := box_keep HX.out hb; clear HX; have HX : Hid (w7.heap[w4.heap.size]? = some (.cells cs 26 (0, 0))) := HX'; clear HX'; have HK7 : Hid (BOk w7 a7 c7 (L ++ [0])) := hk7; clear hown6 hb6 hown7 hb hk7; have t11 : True := trivial)
    | (have _h := t11; go_at_call 15; refine (HP2.out _ _ _ HB.out.bel HK7.out).mono ?_; rintro e w8 ⟨rfl, hb⟩; have HB' : Hid (BxP w cs0 ds0 w8) := BxP.below HB.out hb; clear HB; have HB : Hid (BxP w cs0 ds0 w8) := HB'; clear HB'; have HK' : Hid (BOk w8 a3 c3 L) := BOk.below HK.out hb; clear HK; have HK : Hid (BOk w8 a3 c3 L) := HK'; clear HK'; have HV' : Hid (QVal w8 cs k0 i0 b0) := QVal.below HV.out hb; clear HV; have HV : Hid (QVal w8 cs k0 i0 b0) := HV'; clear HV'; have HX' : Hid (w8.heap[w4.heap.size]? = some (.cells cs 26 (0, 0))) := box_keep HX.out hb; clear HX; have HX : Hid (w8.heap[w4.heap.size]? = some (.cells cs 26 (0, 0))) := HX'; clear HX'; clear hb _h t11 HK7; have t12 : True := trivial)
    | (have _h := t12; refine wpList_store_row rfl 26 _ _ rfl w8.heap.size CZ rfl rfl 26 #[.int .i64 0, .int .i64 0, .string ⟨#[]⟩, .int .i64 0, .int .i64 0, .int .i64 0, .int .i64 0, .int .i64 0, .bool false, .int .i64 0, .int .i64 0, .int .i64 0, .slice none 0 0, .int .i64 0, .int .i64 0, .int .i64 0, .string ⟨#[]⟩] (heap_alloc_new w8 _) (by rw [HZ1.out]; exact Tryd.info26) (by rw [HZ1.out]; rfl) HZ2.out ?_; obtain ⟨hx9, hb⟩ := box_new w8 #[.int .i64 0, .int .i64 0, .string ⟨#[]⟩, .int .i64 0, .int .i64 0, .int .i64 0, .int .i64 0, .int .i64 0, .bool false, .int .i64 0, .int .i64 0, .int .i64 0, .slice none 0 0, .int .i64 0, .int .i64 0, .int .i64 0, .string ⟨#[]⟩] CZ 26; generalize World.setRow _ w8.heap.size CZ = w9 at *; have HB' : Hid (BxP w cs0 ds0 w9) := BxP.below HB.out hb; clear HB; have HB : Hid (BxP w cs0 ds0 w9) := HB'; clear HB'; have HK' : Hid (BOk w9 a3 c3 L) := BOk.below HK.out hb; clear HK; have HK : Hid (BOk w9 a3 c3 L) := HK'; clear HK'; have HV' : Hid (QVal w9 cs k0 i0 b0) := QVal.below HV.out hb; clear HV; have HV : Hid (QVal w9 cs k0 i0 b0) := HV'; clear HV'; have HX' : Hid (w9.heap[w4.heap.size]? = some (.cells cs 26 (0, 0))) := box_keep HX.out hb; clear HX; have HX : Hid (w9.heap[w4.heap.size]? = some (.cells cs 26 (0, 0))) := HX'; clear HX'; have t13 : True := trivial; clear hx9 hb _h t12)
    | (have _h := t13; go_at_call 15; refine (HP3.out _ _ _ HB.out.bel HK.out).mono ?_; rintro e wa ⟨rfl, hb⟩; have HB' : Hid (BxP w cs0 ds0 wa) := BxP.below HB.out hb; clear HB; have HB : Hid (BxP w cs0 ds0 wa) := HB'; clear HB'; have HK' : Hid (BOk wa a3 c3 L) := BOk.below HK.out hb; clear HK; have HK : Hid (BOk wa a3 c3 L) := HK'; clear HK'; have HV' : Hid (QVal wa cs k0 i0 b0) := QVal.below HV.out hb; clear HV; have HV : Hid (QVal wa cs k0 i0 b0) := HV'; clear HV'; have HX' : Hid (wa.heap[w4.heap.size]? = some (.cells cs 26 (0, 0))) := box_keep HX.out hb; clear HX; have HX : Hid (wa.heap[w4.heap.size]? = some (.cells cs 26 (0, 0))) := HX'; clear HX'; clear hb _h t13; have t14 : True := trivial)
    | (have _h := t14; refine wpList_store_row rfl 26 _ _ rfl wa.heap.size CZ rfl rfl 26 #[.int .i64 0, .int .i64 0, .string ⟨#[]⟩, .int .i64 0, .int .i64 0, .int .i64 0, .int .i64 0, .int .i64 0, .bool false, .int .i64 0, .int .i64 0, .int .i64 0, .slice none 0 0, .int .i64 0, .int .i64 0, .int .i64 0, .string ⟨#[]⟩] (heap_alloc_new wa _) (by rw [HZ1.out]; exact Tryd.info26) (by rw [HZ1.out]; rfl) HZ2.out ?_; obtain ⟨hx9, hb⟩ := box_new wa #[.int .i64 0, .int .i64 0, .string ⟨#[]⟩, .int .i64 0, .int .i64 0, .int .i64 0, .int .i64 0, .int .i64 0, .bool false, .int .i64 0, .int .i64 0, .int .i64 0, .slice none 0 0, .int .i64 0, .int .i64 0, .int .i64 0, .string ⟨#[]⟩] CZ 26; generalize World.setRow _ wa.heap.size CZ = wb at *; have HB' : Hid (BxP w cs0 ds0 wb) := BxP.below HB.out hb; clear HB; have HB : Hid (BxP w cs0 ds0 wb) := HB'; clear HB'; have HK' : Hid (BOk wb a3 c3 L) := BOk.below HK.out hb; clear HK; have HK : Hid (BOk wb a3 c3 L) := HK'; clear HK'; have HV' : Hid (QVal wb cs k0 i0 b0) := QVal.below HV.out hb; clear HV; have HV : Hid (QVal wb cs k0 i0 b0) := HV'; clear HV'; have HX' : Hid (wb.heap[w4.heap.size]? = some (.cells cs 26 (0, 0))) := box_keep HX.out hb; clear HX; have HX : Hid (wb.heap[w4.heap.size]? = some (.cells cs 26 (0, 0))) := HX'; clear HX'; have t15 : True := trivial; clear hx9 hb _h t14)
    | (have _h := t15; refine load_row_g (by rfl) 26 _ rfl w4.heap.size rfl 26 cs (0, 0) _ HX.out Tryd.underlying26 rfl (by rw [HC1.out]; exact Tryd.info26) ?_; clear _h t15; have t16 : True := trivial)
    | (have _h := t16; refine load_row_g (by rfl) 26 _ rfl w.heap.size rfl 26 cs0 (0, 0) _ HB.out.a Tryd.underlying26 rfl (by rw [HZ0.out]; exact Tryd.info26) ?_; clear _h t16; have t17 : True := trivial)
    | (go_at_call 16; refine (HSQ.out _ _ HB.out.bel HV.out).mono ?_; rintro e wc ⟨rfl, hb⟩; have HB' : Hid (BxP w cs0 ds0 wc) := BxP.below HB.out hb; clear HB; have HB : Hid (BxP w cs0 ds0 wc) := HB'; clear HB'; have HK' : Hid (BOk wc a3 c3 L) := BOk.below HK.out hb; clear HK; have HK : Hid (BOk wc a3 c3 L) := HK'; clear HK'; have HV' : Hid (QVal wc cs k0 i0 b0) := QVal.below HV.out hb; clear HV; have HV : Hid (QVal wc cs k0 i0 b0) := HV'; clear HV'; have HX' : Hid (wc.heap[w4.heap.size]? = some (.cells cs 26 (0, 0))) := box_keep HX.out hb; clear HX; have HX : Hid (wc.heap[w4.heap.size]? = some (.cells cs 26 (0, 0))) := HX'; clear HX'; clear hb t17; have t20 : True := trivial)
    | (have _h := t20; refine load_row_g (by rfl) 40 _ rfl (w.heap.size + 1) rfl 40 ds0 (0, 0) _ HB.out.b Tryd.underlying40 rfl (by rw [HZ9.out]; exact Tryd.info40) ?_; clear _h t20; have t21 : True := trivial)
    | (go_at_call 17; refine (HR.out _ HB.out.bel (HSN.out (by trivial))).mono ?_; rintro e v3 ⟨rfl, hb⟩; have HB' : Hid (BxP w cs0 ds0 v3) := BxP.below HB.out hb; clear HB; have HB : Hid (BxP w cs0 ds0 v3) := HB'; clear HB'; clear hb t21)
    | (go_at_call 10; refine (HA.out _ HB.out.bel).mono ?_; rintro e vz ⟨rfl, hb⟩; have HBz : Hid (Below w.heap.size w vz) := HB.out.bel.trans (hb.mono HB.out.bel.size); clear hb))
  all_goals (go_ret; exact ⟨rfl, HBz.out⟩)
set_option maxHeartbeats 3000000 in
set_option maxRecDepth 100000 in
theorem back_yy (k0 i0 : Int) (b0 : Bd) (c0 : Bool) (ra0 : Option Addr) (rc0 : Nat) (k1 i1 d1' : Int) (b1 : Bd) (p1' : Pt) (w : World) (ht : Tab w) (w0 : ReqIn w k0 i0 b0 c0 ra0 rc0) (w1 : ResIn w k1 i1 d1' b1 p1') (L : List Nat) (hQ : reqE k0 i0 b0 = some L) (M : List Nat) (hS : resE k1 i1 d1' b1 = some M) : Calls Tryd.prog 4 #[.agg (rqc k0 i0 b0 c0 ra0 rc0), .agg (rsc k1 i1 d1' b1 p1')] w fun e w' => e = .returned (.bool true) ∧ Below w.heap.size w w' := by
  have HA : Hid (∀ x, Below w.heap.size w x → Calls Tryd.prog 10 #[] x fun e w' => e = .returned (.bool true) ∧ Below x.heap.size x w') := fun x h => awake_any x (ht.below h)
  have HI : Hid (∀ x, Below w.heap.size w x → Calls Tryd.prog 9 #[.agg (rqc k0 i0 b0 c0 ra0 rc0)] x fun e w' => IsB (b0 11).rs.length e ∧ Below x.heap.size x w') := fun x hx => in_any _ _ _ _ _ _ x (w0.below hx)
  have HJ : Hid (∀ x, Below w.heap.size w x → Calls Tryd.prog 14 #[.agg (rsc k1 i1 d1' b1 p1')] x fun e w' => IsS (b1 17).nm.length (b1 18).ct.length (b1 19).bs.length e ∧ Below x.heap.size x w') := fun x hx => inS_any _ _ _ _ _ x (w1.below hx)
  have HQ : Hid (∀ x, Below w.heap.size w x → (b0 11).rs.length ≤ 300 → Calls Tryd.prog 11 #[.agg (rqc k0 i0 b0 c0 ra0 rc0)] x fun e w' => (∃ a c, e = .returned (.tuple #[.slice a L.length c, .int .i64 0]) ∧ BOk w' a c L) ∧ Below x.heap.size x w') := fun x hx hl => by
    have q := request_any k0 i0 b0 c0 ra0 rc0 x w0.hk w0.hi w0.hb ((w0.below hx).ok (ht.below hx) (by omega))
    rw [hQ] at q
    refine Calls.mono q (fun e w' h => ?_)
    obtain ⟨a, c, e1, r, b⟩ := EncP.some2 h
    exact ⟨⟨a, c, e1, r⟩, b⟩
  obtain ⟨m, hm⟩ : ∃ m, L.length = m + 1 := ⟨L.length - 1, by have := reqE_len hQ; omega⟩
  obtain ⟨CZ, HCZ⟩ : ∃ CZ : Array Value, Hid (z26 = CZ) := ⟨_, rfl⟩
  have HZ1 : Hid (CZ.size = 17) := by rw [← HCZ.out]; rfl
  have HZ2 : Hid (CZ.all (·.oneCell') = true) := by show _ = _; rw [← HCZ.out]; kernel_rfl
  have HP1 : Hid (∀ x a c, Below w.heap.size w x → BOk x a c L → Calls Tryd.prog 15 #[.slice a L.length c] x fun e w' => (∃ cs, e = .returned (.tuple #[.agg cs, .int .i64 0]) ∧ QVal w' cs k0 i0 b0) ∧ Below x.heap.size x w') := fun x a c hx hk => parseQ_val x a c L (ht.below hx) hk (reqP_back w0.hb.v hQ)
  have HP2 : Hid (∀ x a c, Below w.heap.size w x → BOk x a c (L ++ [0]) → Calls Tryd.prog 15 #[.slice a (L.length + 1) c] x fun e w' => e = .returned (.tuple #[.agg CZ, .int .i64 13]) ∧ Below x.heap.size x w') := fun x a c hx hk => by
    have q := parseQ_no x a c (L ++ [0]) (ht.below hx) hk (reqP_more w0.hb.v hQ [0] (by decide))
    rw [List.length_append] at q
    rw [← HCZ.out]
    exact q
  have HP3 : Hid (∀ x a c, Below w.heap.size w x → BOk x a c L → Calls Tryd.prog 15 #[.slice a m c] x fun e w' => e = .returned (.tuple #[.agg CZ, .int .i64 13]) ∧ Below x.heap.size x w') := fun x a c hx hk => by
    have e1 : (L.take m).length = m := by rw [List.length_take]; omega
    have q := parseQ_no x a c (L.take m) (ht.below hx) ⟨row_take m hk.row, by have := hk.len; omega, hk.cap, hk.nil, by have := hk.big; omega⟩ (reqP_cut hk.row.bd w0.hb.v hQ m (by omega))
    rw [e1] at q
    rw [← HCZ.out]
    exact q
  have HSQ : Hid (∀ x cs, Below w.heap.size w x → QVal x cs k0 i0 b0 → Calls Tryd.prog 16 #[.agg cs, .agg (rqc k0 i0 b0 c0 ra0 rc0)] x fun e w' => e = .returned (.bool true) ∧ Below x.heap.size x w') := fun x cs hx hq => sameQ_yes w0 hx hq
  have HLB : Hid (∀ x a c, BOk x a c L → L.length ≤ c ∧ Byt L ∧ Row x a L ∧ (a = none → c = 0)) := fun x a c h => ⟨h.len, h.row.bd, h.row, h.nil⟩
  have HL : Hid (L.length ≤ 100000000000) := reqE_le hQ
  have HR : Hid (∀ x, Below w.heap.size w x → ((b1 17).nm.length ≤ 300 ∧ (b1 18).ct.length ≤ 300 ∧ (b1 19).bs.length ≤ 300) → Calls Tryd.prog 17 #[.agg (rsc k1 i1 d1' b1 p1')] x fun e w' => (∃ a c, e = .returned (.tuple #[.slice a M.length c, .int .i64 0]) ∧ BOk w' a c M) ∧ Below x.heap.size x w') := fun x hx hl => by
    have q := response_any k1 i1 d1' b1 p1' x w1.hk w1.hi w1.hd ⟨w1.v, w1.z, w1.r.z⟩ ((w1.below hx).ok (ht.below hx) hl)
    rw [hS] at q
    refine Calls.mono q (fun e w' h => ?_)
    obtain ⟨a, c, e1, r, b⟩ := EncP.some2 h
    exact ⟨⟨a, c, e1, r⟩, b⟩
  obtain ⟨CY, HCY⟩ : ∃ CY : Array Value, Hid (z40 = CY) := ⟨_, rfl⟩
  have HY1 : Hid (CY.size = 9) := by rw [← HCY.out]; rfl
  have HY2 : Hid (CY.all (·.oneCell') = true) := by show _ = _; rw [← HCY.out]; kernel_rfl
  have HU1 : Hid (∀ x a c, Below w.heap.size w x → BOk x a c M → Calls Tryd.prog 18 #[.slice a M.length c] x fun e w' => (∃ cs, e = .returned (.tuple #[.agg cs, .int .i64 0]) ∧ SVal w' cs k1 i1 d1' b1) ∧ Below x.heap.size x w') := fun x a c hx hk => parseS_val x a c M (ht.below hx) hk (resP_back w1.v hS)
  have HU2 : Hid (∀ x a c, Below w.heap.size w x → BOk x a c (M ++ [0]) → Calls Tryd.prog 18 #[.slice a (M.length + 1) c] x fun e w' => e = .returned (.tuple #[.agg CY, .int .i64 13]) ∧ Below x.heap.size x w') := fun x a c hx hk => by
    have q := parseS_no x a c (M ++ [0]) (ht.below hx) hk (resP_more w1.v hS [0] (by decide))
    rw [List.length_append] at q
    rw [← HCY.out]
    exact q
  have HSS : Hid (∀ x cs, Below w.heap.size w x → SVal x cs k1 i1 d1' b1 → Calls Tryd.prog 19 #[.agg cs, .agg (rsc k1 i1 d1' b1 p1')] x fun e w' => e = .returned (.bool true) ∧ Below x.heap.size x w') := fun x cs hx hq => sameS_yes w1 hx hq
  have HMB : Hid (∀ x a c, BOk x a c M → Byt M ∧ Row x a M ∧ (a = none → c = 0)) := fun x a c h => ⟨h.row.bd, h.row, h.nil⟩
  have HML : Hid (M.length ≤ 100000000000) := resE_le hS
  have HB : Hid (BxP w (rqc k0 i0 b0 c0 ra0 rc0) (rsc k1 i1 d1' b1 p1') ((w.alloc (.cells (rqc k0 i0 b0 c0 ra0 rc0) 26)).alloc (.cells (rsc k1 i1 d1' b1 p1') 40))) := BxP.new _ _ _
  have HZ0 : Hid ((rqc k0 i0 b0 c0 ra0 rc0).size = 17) := rfl
  have HZ9 : Hid ((rsc k1 i1 d1' b1 p1').size = 9) := rfl
  have HEM : Hid (∀ x : World, (x.alloc (.cells #[] 5)).ownsRow x.heap.size 5 1 (.slice (some ⟨x.heap.size, 0, none⟩) 0 0) 0 []) := fun x => ⟨rfl, .inr ⟨x.heap.size, 0, #[], rfl, Nat.le_refl _, heap_alloc_new x _, Nat.le_refl _, by unfold maxLen; omega, rfl, rfl⟩⟩
  have t1 : True := trivial
  clear ht w0 w1 hQ hS
  have HNM : Hid (L.length = m + 1) := hm
  have hn0 : ¬ ((L.length : Int) = 0) := by omega
  have hn1 : ((L.length : Int) == 0) = false := beq_eq_false_iff_ne.2 hn0
  have e1 : IntKind.i64.wrap ((L.length : Int) - 1) = (m : Int) := by have := HL.out; rw [IntKind.wrap_i64]; omega
  clear hm
  generalize (rqc k0 i0 b0 c0 ra0 rc0) = cs0 at *
  generalize (rsc k1 i1 d1' b1 p1') = ds0 at *
  generalize (b0 11).rs.length = n at *
  generalize (b1 17).nm.length = n1 at *
  generalize (b1 18).ct.length = n2 at *
  generalize (b1 19).bs.length = n3 at *
  go_enter Tryd.func4, Tryd.ntmps4
  go_wp2_with (first
    | (have _h := t1; refine load_row_g (by rfl) 26 _ rfl w.heap.size rfl 26 cs0 (0, 0) _ HB.out.a Tryd.underlying26 rfl (by rw [HZ0.out]; exact Tryd.info26) ?_; clear _h t1; have t2 : True := trivial)
    | (go_at_call 9; refine (HI.out _ HB.out.bel).mono ?_; rintro e w1 ⟨⟨sm, rfl, hsm⟩, hb⟩; have HB' : Hid (BxP w cs0 ds0 w1) := BxP.below HB.out hb; clear HB; have HB : Hid (BxP w cs0 ds0 w1) := HB'; clear HB'; have HSM : Hid (sm = true → n ≤ 300) := hsm; clear hsm hb t2; have t3 : True := trivial; cases sm)
    | (have _h := t3; refine load_row_g (by rfl) 40 _ rfl (w.heap.size + 1) rfl 40 ds0 (0, 0) _ HB.out.b Tryd.underlying40 rfl (by rw [HZ9.out]; exact Tryd.info40) ?_; clear _h t3; have t4 : True := trivial)
    | (go_at_call 14; refine (HJ.out _ HB.out.bel).mono ?_; rintro e w2 ⟨⟨sn, rfl, hsn⟩, hb⟩; have HB' : Hid (BxP w cs0 ds0 w2) := BxP.below HB.out hb; clear HB; have HB : Hid (BxP w cs0 ds0 w2) := HB'; clear HB'; have HSN : Hid (sn = true → n1 ≤ 300 ∧ n2 ≤ 300 ∧ n3 ≤ 300) := hsn; clear hsn hb t4; have t5 : True := trivial; cases sn)
    | (have _h := t5; refine load_row_g (by rfl) 26 _ rfl w.heap.size rfl 26 cs0 (0, 0) _ HB.out.a Tryd.underlying26 rfl (by rw [HZ0.out]; exact Tryd.info26) ?_; clear _h t5; have t6 : True := trivial)
    | (go_at_call 11; refine (HQ.out _ HB.out.bel (HSM.out (by trivial))).mono ?_; rintro e w3 ⟨⟨a3, c3, rfl, hk⟩, hb⟩; have HB' : Hid (BxP w cs0 ds0 w3) := BxP.below HB.out hb; clear HB; have HB : Hid (BxP w cs0 ds0 w3) := HB'; clear HB'; have HK : Hid (BOk w3 a3 c3 L) := hk; have kt : ∀ y, (Instr.slice 29 (.slice a3 L.length c3) none (some (.int .i64 (m : Int))) none).run Tryd.prog y = .ok (.slice a3 m c3) y := (fun y => run_slice_to y a3 L.length c3 m (by have := HNM.out; omega) (HLB.out _ _ _ hk).1); clear hk hb t6; have t7 : True := trivial)
    | (have _h := t7; go_at_call 15; refine (HP1.out _ _ _ HB.out.bel HK.out).mono ?_; rintro e w4 ⟨⟨cs, rfl, hq⟩, hb⟩; have HB' : Hid (BxP w cs0 ds0 w4) := BxP.below HB.out hb; clear HB; have HB : Hid (BxP w cs0 ds0 w4) := HB'; clear HB'; have HK' : Hid (BOk w4 a3 c3 L) := BOk.below HK.out hb; clear HK; have HK : Hid (BOk w4 a3 c3 L) := HK'; clear HK'; have HV : Hid (QVal w4 cs k0 i0 b0) := hq; have HC1 : Hid (cs.size = 17) := hq.size; have HC2 : Hid (cs.all (·.oneCell') = true) := hq.one; clear hq hb _h t7; have t8 : True := trivial)
    | (have _h := t8; refine wpList_store_row rfl 26 _ _ rfl w4.heap.size cs rfl rfl 26 #[.int .i64 0, .int .i64 0, .string ⟨#[]⟩, .int .i64 0, .int .i64 0, .int .i64 0, .int .i64 0, .int .i64 0, .bool false, .int .i64 0, .int .i64 0, .int .i64 0, .slice none 0 0, .int .i64 0, .int .i64 0, .int .i64 0, .string ⟨#[]⟩] (heap_alloc_new w4 _) (by rw [HC1.out]; exact Tryd.info26) (by rw [HC1.out]; rfl) HC2.out ?_; obtain ⟨hx9, hb⟩ := box_new w4 #[.int .i64 0, .int .i64 0, .string ⟨#[]⟩, .int .i64 0, .int .i64 0, .int .i64 0, .int .i64 0, .int .i64 0, .bool false, .int .i64 0, .int .i64 0, .int .i64 0, .slice none 0 0, .int .i64 0, .int .i64 0, .int .i64 0, .string ⟨#[]⟩] cs 26; generalize World.setRow _ w4.heap.size cs = w5 at *; have HB' : Hid (BxP w cs0 ds0 w5) := BxP.below HB.out hb; clear HB; have HB : Hid (BxP w cs0 ds0 w5) := HB'; clear HB'; have HK' : Hid (BOk w5 a3 c3 L) := BOk.below HK.out hb; clear HK; have HK : Hid (BOk w5 a3 c3 L) := HK'; clear HK'; have HV' : Hid (QVal w5 cs k0 i0 b0) := QVal.below HV.out hb; clear HV; have HV : Hid (QVal w5 cs k0 i0 b0) := HV'; clear HV'; have HX : Hid (w5.heap[w4.heap.size]? = some (.cells cs 26 (0, 0))) := hx9; have t9 : True := trivial; clear hx9 hb _h t8)
    | (at_builtin; have _t := t9; refine wpList_append_big (by rfl) _ _ rfl w5.heap.size w5 _ _ _ rfl (HEM.out w5) (below_box _) (by simp) a3 c3 L rfl (Row.below (HLB.out _ _ _ HK.out).2.2.1 (below_box _)) (HLB.out _ _ _ HK.out).2.2.2 (by have := HL.out; omega) ?_; clear t9 _t; intro v6 w6 hown6 hb6; rw [Nat.zero_add, List.nil_append] at hown6; have t10 : True := trivial)
    | (at_builtin; have _t := t10; refine wpList_append_big (by rfl) _ _ rfl w5.heap.size w5 _ _ _ rfl (own_any hown6 (below_box _)) (hb6.trans ((below_box _).mono hb6.size)) (by have := hb6.size; simp; omega) (some ⟨w6.heap.size, 0, none⟩) 1 [0] rfl (head_row w6 0 (by decide)).1 (fun c => by cases c) (by have := HL.out; simp only [List.length_cons, List.length_nil]; omega) ?_; clear t10 _t; intro v7 w7 hown7 hb; obtain ⟨a7, c7, rfl, hk7⟩ := app_ok hown7 (HLB.out _ _ _ HK.out).2.1 (by decide) (by have := HL.out; omega); have HB' : Hid (BxP w cs0 ds0 w7) := BxP.below HB.out hb; clear HB; have HB : Hid (BxP w cs0 ds0 w7) := HB'; clear HB'; have HK' : Hid (BOk w7 a3 c3 L) := BOk.below HK.out hb; clear HK; have HK : Hid (BOk w7 a3 c3 L) := HK'; clear HK'; have HV' : Hid (QVal w7 cs k0 i0 b0) := QVal.below HV.out hb; clear HV; have HV : Hid (QVal w7 cs k0 i0 b0) := HV'; clear HV'; have HX' : Hid (w7.heap[w4.heap.size]? = some (.cells cs 26 (0, 0))) := box_keep HX.out hb; clear HX; have HX : Hid (w7.heap[w4.heap.size]? = some (.cells cs 26 (0, 0))) := HX'; clear HX'; have HK7 : Hid (BOk w7 a7 c7 (L ++ [0])) := hk7; clear hown6 hb6 hown7 hb hk7; have t11 : True := trivial)
    | (have _h := t11; go_at_call 15; refine (HP2.out _ _ _ HB.out.bel HK7.out).mono ?_; rintro e w8 ⟨rfl, hb⟩; have HB' : Hid (BxP w cs0 ds0 w8) := BxP.below HB.out hb; clear HB; have HB : Hid (BxP w cs0 ds0 w8) := HB'; clear HB'; have HK' : Hid (BOk w8 a3 c3 L) := BOk.below HK.out hb; clear HK; have HK : Hid (BOk w8 a3 c3 L) := HK'; clear HK'; have HV' : Hid (QVal w8 cs k0 i0 b0) := QVal.below HV.out hb; clear HV; have HV : Hid (QVal w8 cs k0 i0 b0) := HV'; clear HV'; have HX' : Hid (w8.heap[w4.heap.size]? = some (.cells cs 26 (0, 0))) := box_keep HX.out hb; clear HX; have HX : Hid (w8.heap[w4.heap.size]? = some (.cells cs 26 (0, 0))) := HX'; clear HX'; clear hb _h t11 HK7; have t12 : True := trivial)
    | (have _h := t12; refine wpList_store_row rfl 26 _ _ rfl w8.heap.size CZ rfl rfl 26 #[.int .i64 0, .int .i64 0, .string ⟨#[]⟩, .int .i64 0, .int .i64 0, .int .i64 0, .int .i64 0, .int .i64 0, .bool false, .int .i64 0, .int .i64 0, .int .i64 0, .slice none 0 0, .int .i64 0, .int .i64 0, .int .i64 0, .string ⟨#[]⟩] (heap_alloc_new w8 _) (by rw [HZ1.out]; exact Tryd.info26) (by rw [HZ1.out]; rfl) HZ2.out ?_; obtain ⟨hx9, hb⟩ := box_new w8 #[.int .i64 0, .int .i64 0, .string ⟨#[]⟩, .int .i64 0, .int .i64 0, .int .i64 0, .int .i64 0, .int .i64 0, .bool false, .int .i64 0, .int .i64 0, .int .i64 0, .slice none 0 0, .int .i64 0, .int .i64 0, .int .i64 0, .string ⟨#[]⟩] CZ 26; generalize World.setRow _ w8.heap.size CZ = w9 at *; have HB' : Hid (BxP w cs0 ds0 w9) := BxP.below HB.out hb; clear HB; have HB : Hid (BxP w cs0 ds0 w9) := HB'; clear HB'; have HK' : Hid (BOk w9 a3 c3 L) := BOk.below HK.out hb; clear HK; have HK : Hid (BOk w9 a3 c3 L) := HK'; clear HK'; have HV' : Hid (QVal w9 cs k0 i0 b0) := QVal.below HV.out hb; clear HV; have HV : Hid (QVal w9 cs k0 i0 b0) := HV'; clear HV'; have HX' : Hid (w9.heap[w4.heap.size]? = some (.cells cs 26 (0, 0))) := box_keep HX.out hb; clear HX; have HX : Hid (w9.heap[w4.heap.size]? = some (.cells cs 26 (0, 0))) := HX'; clear HX'; have t13 : True := trivial; clear hx9 hb _h t12)
    | (have _h := t13; go_at_call 15; refine (HP3.out _ _ _ HB.out.bel HK.out).mono ?_; rintro e wa ⟨rfl, hb⟩; have HB' : Hid (BxP w cs0 ds0 wa) := BxP.below HB.out hb; clear HB; have HB : Hid (BxP w cs0 ds0 wa) := HB'; clear HB'; have HK' : Hid (BOk wa a3 c3 L) := BOk.below HK.out hb; clear HK; have HK : Hid (BOk wa a3 c3 L) := HK'; clear HK'; have HV' : Hid (QVal wa cs k0 i0 b0) := QVal.below HV.out hb; clear HV; have HV : Hid (QVal wa cs k0 i0 b0) := HV'; clear HV'; have HX' : Hid (wa.heap[w4.heap.size]? = some (.cells cs 26 (0, 0))) := box_keep HX.out hb; clear HX; have HX : Hid (wa.heap[w4.heap.size]? = some (.cells cs 26 (0, 0))) := HX'; clear HX'; clear hb _h t13; have t14 : True := trivial)
    | (have _h := t14; refine wpList_store_row rfl 26 _ _ rfl wa.heap.size CZ rfl rfl 26 #[.int .i64 0, .int .i64 0, .string ⟨#[]⟩, .int .i64 0, .int .i64 0, .int .i64 0, .int .i64 0, .int .i64 0, .bool false, .int .i64 0, .int .i64 0, .int .i64 0, .slice none 0 0, .int .i64 0, .int .i64 0, .int .i64 0, .string ⟨#[]⟩] (heap_alloc_new wa _) (by rw [HZ1.out]; exact Tryd.info26) (by rw [HZ1.out]; rfl) HZ2.out ?_; obtain ⟨hx9, hb⟩ := box_new wa #[.int .i64 0, .int .i64 0, .string ⟨#[]⟩, .int .i64 0, .int .i64 0, .int .i64 0, .int .i64 0, .int .i64 0, .bool false, .int .i64 0, .int .i64 0, .int .i64 0, .slice none 0 0, .int .i64 0, .int .i64 0, .int .i64 0, .string ⟨#[]⟩] CZ 26; generalize World.setRow _ wa.heap.size CZ = wb at *; have HB' : Hid (BxP w cs0 ds0 wb) := BxP.below HB.out hb; clear HB; have HB : Hid (BxP w cs0 ds0 wb) := HB'; clear HB'; have HK' : Hid (BOk wb a3 c3 L) := BOk.below HK.out hb; clear HK; have HK : Hid (BOk wb a3 c3 L) := HK'; clear HK'; have HV' : Hid (QVal wb cs k0 i0 b0) := QVal.below HV.out hb; clear HV; have HV : Hid (QVal wb cs k0 i0 b0) := HV'; clear HV'; have HX' : Hid (wb.heap[w4.heap.size]? = some (.cells cs 26 (0, 0))) := box_keep HX.out hb; clear HX; have HX : Hid (wb.heap[w4.heap.size]? = some (.cells cs 26 (0, 0))) := HX'; clear HX'; have t15 : True := trivial; clear hx9 hb _h t14)
    | (have _h := t15; refine load_row_g (by rfl) 26 _ rfl w4.heap.size rfl 26 cs (0, 0) _ HX.out Tryd.underlying26 rfl (by rw [HC1.out]; exact Tryd.info26) ?_; clear _h t15; have t16 : True := trivial)
    | (have _h := t16; refine load_row_g (by rfl) 26 _ rfl w.heap.size rfl 26 cs0 (0, 0) _ HB.out.a Tryd.underlying26 rfl (by rw [HZ0.out]; exact Tryd.info26) ?_; clear _h t16; have t17 : True := trivial)
    | (go_at_call 16; refine (HSQ.out _ _ HB.out.bel HV.out).mono ?_; rintro e wc ⟨rfl, hb⟩; have HB' : Hid (BxP w cs0 ds0 wc) := BxP.below HB.out hb; clear HB; have HB : Hid (BxP w cs0 ds0 wc) := HB'; clear HB'; have HK' : Hid (BOk wc a3 c3 L) := BOk.below HK.out hb; clear HK; have HK : Hid (BOk wc a3 c3 L) := HK'; clear HK'; have HV' : Hid (QVal wc cs k0 i0 b0) := QVal.below HV.out hb; clear HV; have HV : Hid (QVal wc cs k0 i0 b0) := HV'; clear HV'; have HX' : Hid (wc.heap[w4.heap.size]? = some (.cells cs 26 (0, 0))) := box_keep HX.out hb; clear HX; have HX : Hid (wc.heap[w4.heap.size]? = some (.cells cs 26 (0, 0))) := HX'; clear HX'; clear hb t17; have t20 : True := trivial)
    | (have _h := t20; refine load_row_g (by rfl) 40 _ rfl (w.heap.size + 1) rfl 40 ds0 (0, 0) _ HB.out.b Tryd.underlying40 rfl (by rw [HZ9.out]; exact Tryd.info40) ?_; clear _h t20; have t21 : True := trivial)
    | (go_at_call 17; refine (HR.out _ HB.out.bel (HSN.out (by trivial))).mono ?_; rintro e v3 ⟨⟨d3, f3, rfl, hk⟩, hb⟩; have HB' : Hid (BxP w cs0 ds0 v3) := BxP.below HB.out hb; clear HB; have HB : Hid (BxP w cs0 ds0 v3) := HB'; clear HB'; have HM : Hid (BOk v3 d3 f3 M) := hk; clear hk hb t21; have t22 : True := trivial)
    | (have _h := t22; go_at_call 18; refine (HU1.out _ _ _ HB.out.bel HM.out).mono ?_; rintro e v4 ⟨⟨ds, rfl, hq⟩, hb⟩; have HB' : Hid (BxP w cs0 ds0 v4) := BxP.below HB.out hb; clear HB; have HB : Hid (BxP w cs0 ds0 v4) := HB'; clear HB'; have HM' : Hid (BOk v4 d3 f3 M) := BOk.below HM.out hb; clear HM; have HM : Hid (BOk v4 d3 f3 M) := HM'; clear HM'; have HW : Hid (SVal v4 ds k1 i1 d1' b1) := hq; have HD1 : Hid (ds.size = 9) := hq.size; have HD2 : Hid (ds.all (·.oneCell') = true) := hq.one; clear hq hb _h t22; have t23 : True := trivial)
    | (have _h := t23; refine wpList_store_row rfl 40 _ _ rfl v4.heap.size ds rfl rfl 40 #[.int .i64 0, .int .i64 0, .int .i64 0, .int .i64 0, .int .i64 0, .int .i64 0, .slice none 0 0, .slice none 0 0, .slice none 0 0] (heap_alloc_new v4 _) (by rw [HD1.out]; exact Tryd.info40) (by rw [HD1.out]; rfl) HD2.out ?_; obtain ⟨hx9, hb⟩ := box_new v4 #[.int .i64 0, .int .i64 0, .int .i64 0, .int .i64 0, .int .i64 0, .int .i64 0, .slice none 0 0, .slice none 0 0, .slice none 0 0] ds 40; generalize World.setRow _ v4.heap.size ds = v5 at *; have HB' : Hid (BxP w cs0 ds0 v5) := BxP.below HB.out hb; clear HB; have HB : Hid (BxP w cs0 ds0 v5) := HB'; clear HB'; have HM' : Hid (BOk v5 d3 f3 M) := BOk.below HM.out hb; clear HM; have HM : Hid (BOk v5 d3 f3 M) := HM'; clear HM'; have HW' : Hid (SVal v5 ds k1 i1 d1' b1) := SVal.below HW.out hb; clear HW; have HW : Hid (SVal v5 ds k1 i1 d1' b1) := HW'; clear HW'; have HO : Hid (v5.heap[v4.heap.size]? = some (.cells ds 40 (0, 0))) := hx9; have t24 : True := trivial; clear hx9 hb _h t23)
    | (at_builtin; have _t := t24; refine wpList_append_big (by rfl) _ _ rfl v5.heap.size v5 _ _ _ rfl (HEM.out v5) (below_box _) (by simp) d3 f3 M rfl (Row.below (HMB.out _ _ _ HM.out).2.1 (below_box _)) (HMB.out _ _ _ HM.out).2.2 (by have := HML.out; omega) ?_; clear t24 _t; intro v6' v6 hown6 hb6; rw [Nat.zero_add, List.nil_append] at hown6; have t25 : True := trivial)
    | (at_builtin; have _t := t25; refine wpList_append_big (by rfl) _ _ rfl v5.heap.size v5 _ _ _ rfl (own_any hown6 (below_box _)) (hb6.trans ((below_box _).mono hb6.size)) (by have := hb6.size; simp; omega) (some ⟨v6.heap.size, 0, none⟩) 1 [0] rfl (head_row v6 0 (by decide)).1 (fun c => by cases c) (by have := HML.out; simp only [List.length_cons, List.length_nil]; omega) ?_; clear t25 _t; intro v7' v7 hown7 hb; obtain ⟨d7, f7, rfl, hk7⟩ := app_ok hown7 (HMB.out _ _ _ HM.out).1 (by decide) (by have := HML.out; omega); have HB' : Hid (BxP w cs0 ds0 v7) := BxP.below HB.out hb; clear HB; have HB : Hid (BxP w cs0 ds0 v7) := HB'; clear HB'; have HM' : Hid (BOk v7 d3 f3 M) := BOk.below HM.out hb; clear HM; have HM : Hid (BOk v7 d3 f3 M) := HM'; clear HM'; have HW' : Hid (SVal v7 ds k1 i1 d1' b1) := SVal.below HW.out hb; clear HW; have HW : Hid (SVal v7 ds k1 i1 d1' b1) := HW'; clear HW'; have HO' : Hid (v7.heap[v4.heap.size]? = some (.cells ds 40 (0, 0))) := box_keep HO.out hb; clear HO; have HO : Hid (v7.heap[v4.heap.size]? = some (.cells ds 40 (0, 0))) := HO'; clear HO'; have HM7 : Hid (BOk v7 d7 f7 (M ++ [0])) := hk7; clear hown6 hb6 hown7 hb hk7; have t26 : True := trivial)
    | (have _h := t26; go_at_call 18; refine (HU2.out _ _ _ HB.out.bel HM7.out).mono ?_; rintro e v8 ⟨rfl, hb⟩; have HB' : Hid (BxP w cs0 ds0 v8) := BxP.below HB.out hb; clear HB; have HB : Hid (BxP w cs0 ds0 v8) := HB'; clear HB'; have HM' : Hid (BOk v8 d3 f3 M) := BOk.below HM.out hb; clear HM; have HM : Hid (BOk v8 d3 f3 M) := HM'; clear HM'; have HW' : Hid (SVal v8 ds k1 i1 d1' b1) := SVal.below HW.out hb; clear HW; have HW : Hid (SVal v8 ds k1 i1 d1' b1) := HW'; clear HW'; have HO' : Hid (v8.heap[v4.heap.size]? = some (.cells ds 40 (0, 0))) := box_keep HO.out hb; clear HO; have HO : Hid (v8.heap[v4.heap.size]? = some (.cells ds 40 (0, 0))) := HO'; clear HO'; clear hb _h t26 HM7; have t27 : True := trivial)
    | (have _h := t27; refine wpList_store_row rfl 40 _ _ rfl v8.heap.size CY rfl rfl 40 #[.int .i64 0, .int .i64 0, .int .i64 0, .int .i64 0, .int .i64 0, .int .i64 0, .slice none 0 0, .slice none 0 0, .slice none 0 0] (heap_alloc_new v8 _) (by rw [HY1.out]; exact Tryd.info40) (by rw [HY1.out]; rfl) HY2.out ?_; obtain ⟨hx9, hb⟩ := box_new v8 #[.int .i64 0, .int .i64 0, .int .i64 0, .int .i64 0, .int .i64 0, .int .i64 0, .slice none 0 0, .slice none 0 0, .slice none 0 0] CY 40; generalize World.setRow _ v8.heap.size CY = v9 at *; have HB' : Hid (BxP w cs0 ds0 v9) := BxP.below HB.out hb; clear HB; have HB : Hid (BxP w cs0 ds0 v9) := HB'; clear HB'; have HM' : Hid (BOk v9 d3 f3 M) := BOk.below HM.out hb; clear HM; have HM : Hid (BOk v9 d3 f3 M) := HM'; clear HM'; have HW' : Hid (SVal v9 ds k1 i1 d1' b1) := SVal.below HW.out hb; clear HW; have HW : Hid (SVal v9 ds k1 i1 d1' b1) := HW'; clear HW'; have HO' : Hid (v9.heap[v4.heap.size]? = some (.cells ds 40 (0, 0))) := box_keep HO.out hb; clear HO; have HO : Hid (v9.heap[v4.heap.size]? = some (.cells ds 40 (0, 0))) := HO'; clear HO'; have t28 : True := trivial; clear hx9 hb _h t27)
    | (have _h := t28; refine load_row_g (by rfl) 40 _ rfl v4.heap.size rfl 40 ds (0, 0) _ HO.out Tryd.underlying40 rfl (by rw [HD1.out]; exact Tryd.info40) ?_; clear _h t28; have t29 : True := trivial)
    | (have _h := t29; refine load_row_g (by rfl) 40 _ rfl (w.heap.size + 1) rfl 40 ds0 (0, 0) _ HB.out.b Tryd.underlying40 rfl (by rw [HZ9.out]; exact Tryd.info40) ?_; clear _h t29; have t30 : True := trivial)
    | (go_at_call 19; refine (HSS.out _ _ HB.out.bel HW.out).mono ?_; rintro e va ⟨rfl, hb⟩; have HB' : Hid (BxP w cs0 ds0 va) := BxP.below HB.out hb; clear HB; have HB : Hid (BxP w cs0 ds0 va) := HB'; clear HB'; have HM' : Hid (BOk va d3 f3 M) := BOk.below HM.out hb; clear HM; have HM : Hid (BOk va d3 f3 M) := HM'; clear HM'; have HW' : Hid (SVal va ds k1 i1 d1' b1) := SVal.below HW.out hb; clear HW; have HW : Hid (SVal va ds k1 i1 d1' b1) := HW'; clear HW'; have HO' : Hid (va.heap[v4.heap.size]? = some (.cells ds 40 (0, 0))) := box_keep HO.out hb; clear HO; have HO : Hid (va.heap[v4.heap.size]? = some (.cells ds 40 (0, 0))) := HO'; clear HO'; clear hb t30)
    | (go_at_call 10; refine (HA.out _ HB.out.bel).mono ?_; rintro e vz ⟨rfl, hb⟩; have HBz : Hid (Below w.heap.size w vz) := HB.out.bel.trans (hb.mono HB.out.bel.size); clear hb))
  all_goals (go_ret; exact ⟨rfl, HBz.out⟩)
theorem codecBack_walk (k0 i0 : Int) (b0 : Bd) (c0 : Bool) (ra0 : Option Addr) (rc0 : Nat) (k1 i1 d1' : Int) (b1 : Bd) (p1' : Pt) (w : World) (ht : Tab w) (w0 : ReqIn w k0 i0 b0 c0 ra0 rc0) (w1 : ResIn w k1 i1 d1' b1 p1') : Calls Tryd.prog 4 #[.agg (rqc k0 i0 b0 c0 ra0 rc0), .agg (rsc k1 i1 d1' b1 p1')] w fun e w' => e = .returned (.bool true) ∧ Below w.heap.size w w' := by
  cases hQ : reqE k0 i0 b0 with
  | none =>
    cases hS : resE k1 i1 d1' b1 with
    | none => exact back_nn _ _ _ _ _ _ _ _ _ _ _ w ht w0 w1 hQ hS
    | some M => exact back_ny _ _ _ _ _ _ _ _ _ _ _ w ht w0 w1 hQ M hS
  | some L =>
    cases hS : resE k1 i1 d1' b1 with
    | none => exact back_yn _ _ _ _ _ _ _ _ _ _ _ w ht w0 w1 L hQ hS
    | some M => exact back_yy _ _ _ _ _ _ _ _ _ _ _ w ht w0 w1 L hQ M hS
end Go.Proofs.YtaooidckmepdeaaDoor
