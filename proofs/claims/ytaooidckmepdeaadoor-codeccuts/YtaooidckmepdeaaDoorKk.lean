/- answerRow, end; Request. -/
import Derived.Test.YtaooidckmepdeaaDoorKj
namespace Go.Proofs.YtaooidckmepdeaaDoor
set_option linter.unusedSimpArgs false
set_option linter.unusedVariables false
open Go.RowKit
set_option maxHeartbeats 400000 in
set_option maxRecDepth 100000 in
theorem answerRow_any (kind code : Int) (w : World) : Calls Tryd.prog 36 #[.int .i64 kind, .int .i64 code] w (RowP (ansRow kind code) w) := by
  have HR : Hid (Calls Tryd.prog 22 #[.int .i64 1, .int .i64 kind] w (RowP (rowA kind) w)) := rowOf_any 1 kind (.inr rfl) w
  by_cases hc : code = 0
  · subst hc
    by_cases hk : kind = 0
    · subst hk
      have e1 : ansRow 0 0 = none := rfl
      have e2 : rowA 0 = some [] := rfl
      rw [e1]
      rw [e2] at HR
      go_enter Tryd.func36, Tryd.ntmps36
      go_wp2_with (go_at_call 22; refine Calls.mono HR.out ?_; rintro e w1 ⟨⟨a1, c1, rfl, hf1⟩, hb1⟩; have HF : Hid _ := hf1; clear hf1)
      go_ret2
      exact ⟨⟨a1, c1, rfl, HF.out⟩, hb1⟩
    · have e1 : ansRow kind 0 = rowA kind := by unfold ansRow; rw [if_pos rfl, if_neg hk]
      rw [e1]
      have hk2 : (kind != 0) = true := by simpa using hk
      clear hk e1
      obtain ⟨n, HN⟩ : ∃ n, Hid ((rowOr (rowA kind)).length = n) := ⟨_, rfl⟩
      cases hb : (rowA kind).isSome
      · have HB : Hid ((rowA kind).isSome = false) := hb
        clear hb
        go_enter Tryd.func36, Tryd.ntmps36
        go_wp2_with (go_at_call 22; refine Calls.mono HR.out ?_; rintro e w1 ⟨⟨a1, c1, rfl, hf1⟩, hb1⟩; have HF : Hid (FRow w1 a1 (rowOr (rowA kind))) := hf1; clear hf1; rw [HB.out, HN.out])
        go_ret2
        exact ⟨⟨a1, c1, by rw [HB.out, HN.out]; rfl, HF.out⟩, hb1⟩
      · have HB : Hid ((rowA kind).isSome = true) := hb
        clear hb
        go_enter Tryd.func36, Tryd.ntmps36
        go_wp2_with (go_at_call 22; refine Calls.mono HR.out ?_; rintro e w1 ⟨⟨a1, c1, rfl, hf1⟩, hb1⟩; have HF : Hid (FRow w1 a1 (rowOr (rowA kind))) := hf1; clear hf1; rw [HB.out, HN.out])
        go_ret2
        exact ⟨⟨a1, c1, by rw [HB.out, HN.out]; rfl, HF.out⟩, hb1⟩
  · have e1 : ansRow kind code = (rowA kind).map fun _ => [] := by unfold ansRow; rw [if_neg hc]
    have e2 : (ansRow kind code).isSome = (rowA kind).isSome := by rw [e1]; simp
    have e3 : rowOr (ansRow kind code) = [] := by rw [e1]; cases rowA kind <;> rfl
    have HE : Hid ((ansRow kind code).isSome = (rowA kind).isSome ∧ rowOr (ansRow kind code) = []) := ⟨e2, e3⟩
    have hc2 : (code != 0) = true := by simpa using hc
    clear hc e1 e2 e3
    obtain ⟨n, HN⟩ : ∃ n, Hid ((rowOr (rowA kind)).length = n) := ⟨_, rfl⟩
    obtain ⟨bb, HB⟩ : ∃ bb, Hid ((rowA kind).isSome = bb) := ⟨_, rfl⟩
    go_enter Tryd.func36, Tryd.ntmps36
    go_wp2_with (go_at_call 22; refine Calls.mono HR.out ?_; rintro e w1 ⟨⟨a1, c1, rfl, hf1⟩, hb1⟩; clear hf1; rw [HB.out, HN.out])
    go_ret2
    exact ⟨⟨none, 0, by rw [HE.out.1, HE.out.2, HB.out]; rfl, fun i hi => by rw [HE.out.2] at hi; simp at hi⟩, hb1⟩
/-- What end answers. -/
def EndV (st : Ls) (M : Nat) (v : Value) (z : Int) (w' : World) : Prop := (∀ L, st = some L → z = 0 ∧ w'.ownsRow M 5 1 v L.length (cv L) ∧ Byt L ∧ L.length ≤ 1000000000000) ∧ (st = none → v = .slice none 0 0 ∧ z = 1)
def EndP (st : Ls) (M : Nat) (e : Ending) (w' : World) : Prop := ∃ v z, e = .returned (.tuple #[v, .int .i64 z]) ∧ EndV st M v z w'
set_option maxRecDepth 100000 in
theorem end_any (w0 w : World) (st : Ls) (N : Nat) (hN : N ≤ 1000000000000) (h : WrS w0 w st N) : Calls Tryd.prog 26 #[.pointer (some ⟨w0.heap.size, 0, none⟩)] w fun e w' => EndP st w0.heap.size e w' ∧ w' = w := by
  obtain ⟨v, l, hx, ho, hb, hl, hs⟩ := h.ex
  obtain ⟨a, c, rfl⟩ := own_slice ho
  have c0 := (box_at hx 0).1
  have c1 := (box_at hx 1).1
  simp only [List.getElem?_toArray, List.getElem?_cons_zero, List.getElem?_cons_succ] at c0 c1
  have HO : Hid (w.ownsRow w0.heap.size 5 1 (.slice a l.length c) l.length (cv l)) := ho
  have HS : Hid (∀ L, st = some L → l = L) := hs
  clear hx ho hs h
  cases st with
  | none =>
    simp only [Option.isNone_none] at c1
    go_enter Tryd.func26, Tryd.ntmps26
    go_wp2_with fail
    go_ret2
    exact ⟨⟨_, _, rfl, fun L e => (by cases e), fun _ => ⟨rfl, rfl⟩⟩, rfl⟩
  | some L0 =>
    obtain rfl := HS.out L0 rfl
    simp only [Option.isNone_some] at c1
    go_enter Tryd.func26, Tryd.ntmps26
    go_wp2_with fail
    go_ret2
    exact ⟨⟨_, _, rfl, fun L e => (by injection e with e; subst e; exact ⟨rfl, HO.out, hb, by omega⟩), fun e => (by cases e)⟩, rfl⟩
/-- What Request, and Response, answer. -/
def EncP (st : Ls) (w : World) (e : Ending) (w' : World) : Prop := EndP st w.heap.size e w' ∧ Below w.heap.size w w'
theorem WrS.new (w : World) (ok : Bool) (st : Ls) (h : ok = st.isNone) (hs : ∀ L, st = some L → [] = L) : WrS w (w.alloc (.cells #[.slice none 0 0, .bool ok] 60)) st 0 := by
  refine ⟨⟨.slice none 0 0, [], ?_, World.ownsRow_nil _ _ _ _, (fun c hc => (by cases hc)), Nat.le_refl _, hs⟩, below_box _⟩
  rw [← h]
  exact heap_alloc_new w _
theorem Tryd.info26 : (Tryd.prog.info? 26).map (·.size) = some 17 := by kernel_rfl
theorem Tryd.info40 : (Tryd.prog.info? 40).map (·.size) = some 9 := by kernel_rfl
theorem rq_size (k i : Int) (b : Bd) (c : Bool) (ra : Option Addr) (rc : Nat) : (rqc k i b c ra rc).size = 17 := rfl
theorem rs_size (k i d : Int) (b : Bd) (p : Pt) : (rsc k i d b p).size = 9 := rfl
theorem own_down {M M' : Nat} {w : World} {e : TypeId} {s : Nat} {v : Value} {n : Nat} {xs : List Value} (h : w.ownsRow M e s v n xs) (hm : M' ≤ M) : w.ownsRow M' e s v n xs :=
  ⟨h.1, h.2.elim Or.inl (fun ⟨g, cap, cur, hv, hg, r⟩ => Or.inr ⟨g, cap, cur, hv, Nat.le_trans hm hg, r⟩)⟩
theorem EndV.down {st : Ls} {M M' : Nat} {v : Value} {z : Int} {w' : World} (h : EndV st M v z w') (hm : M' ≤ M) : EndV st M' v z w' :=
  ⟨fun L q => by obtain ⟨a, b, c, d⟩ := h.1 L q; exact ⟨a, own_down b hm, c, d⟩, h.2⟩
set_option maxHeartbeats 1000000 in
set_option maxRecDepth 100000 in
theorem request_in (k i : Int) (cs bs : Array Value) (w : World) (T : Option (List Nat)) (n : Nat) (ok : Bool) (sx s0 s1 s2 s3 : Ls) (N1 N2 N3 : Nat) (hN : N3 ≤ 1000000000000) (hcs : cs.size = 17) (hok : T.isSome = ok) (hn : (rowOr T).length = n) (h0 : (!ok) = s0.isNone) (h00 : ∀ L, s0 = some L → [] = L) (hx : sx = s3)
    (HC : Hid (cs[0]? = some (.int .i64 k) ∧ cs[1]? = some (.int .i64 i)))
    (HR : Hid (∀ x, Calls Tryd.prog 22 #[.int .i64 0, .int .i64 k] x (RowP T x)))
    (H1 : Hid (∀ y x, WrS y x s0 0 → Calls Tryd.prog 23 #[.pointer (some ⟨y.heap.size, 0, none⟩), .int .i64 1, .int .i64 k] x (WP y x s1 N1)))
    (H2 : Hid (∀ y x, WrS y x s1 N1 → Calls Tryd.prog 23 #[.pointer (some ⟨y.heap.size, 0, none⟩), .int .i64 4, .int .i64 i] x (WP y x s2 N2)))
    (HQ : Hid (∀ x, Calls Tryd.prog 25 #[.agg cs] x fun e w' => e = .returned (.agg bs) ∧ Below x.heap.size x w'))
    (HF : Hid (∀ y x a c, Below w.heap.size w y → FRow y a (rowOr T) → WrS y x s2 N2 → Calls Tryd.prog 24 #[.pointer (some ⟨y.heap.size, 0, none⟩), .agg bs, .slice a n c] x (WP y x s3 N3))) :
    Calls Tryd.prog 11 #[.agg cs] w (EncP sx w) := by
  subst hx
  have HX0 : Hid ((w.alloc (.cells cs 26)).heap[w.heap.size]? = some (.cells cs 26 (0, 0))) := heap_alloc_new w _
  have HZ : Hid (cs.size = 17) := hcs
  have q0 : (w.alloc (.cells cs 26)).cell? ⟨w.heap.size, 0, none⟩ = some (.int .i64 k) := by rw [(box_at HX0.out 0).1]; exact HC.out.1
  have HI : Hid (T.isSome = ok ∧ (rowOr T).length = n) := ⟨hok, hn⟩
  have HS0 : Hid ((!ok) = s0.isNone ∧ ∀ L, s0 = some L → [] = L) := ⟨h0, h00⟩
  have HE : Hid (∀ y x, WrS y x sx N3 → Calls Tryd.prog 26 #[.pointer (some ⟨y.heap.size, 0, none⟩)] x fun e w' => EndP sx y.heap.size e w' ∧ w' = x) := fun y x hx => end_any y x sx N3 hN hx
  clear hcs hok hn h0 h00 hN
  have tok1 : True := trivial
  cases ok
  all_goals
    simp only [Bool.not_true, Bool.not_false] at HS0
    go_enter Tryd.func11, Tryd.ntmps11
    go_wp2_with (first
      | (go_at_call 22; refine (HR.out _).mono ?_; rintro e w1 ⟨⟨a1, c1, rfl, hf1⟩, hb1⟩; rw [HI.out.1, HI.out.2]; have HFR : Hid (FRow w1 a1 (rowOr T)) := hf1; have HB1 : Hid (Below w.heap.size w w1) := (below_box _).trans (hb1.mono (by simp)); have HX1 : Hid (w1.heap[w.heap.size]? = some (.cells cs 26 (0, 0))) := (hb1.block _ (Array.getElem?_eq_some_iff.1 HX0.out).1).trans HX0.out; have HW1 : Hid _ := WrS.new w1 _ s0 HS0.out.1 HS0.out.2; have p0 : w1.cell? ⟨w.heap.size, 0, none⟩ = some (.int .i64 k) := (by rw [(box_at HX1.out 0).1]; exact HC.out.1); have p1 : w1.cell? ⟨w.heap.size, 1, none⟩ = some (.int .i64 i) := (by rw [(box_at HX1.out 1).1]; exact HC.out.2); have plt : w.heap.size < w1.heap.size := (Array.getElem?_eq_some_iff.1 HX1.out).1; clear hf1 hb1 q0)
      | (have _h := tok1; go_at_call 23; refine (H1.out w1 _ HW1.out).mono ?_; rintro e w2 ⟨rfl, hw2, hk2⟩; have HW2 : Hid (WrS w1 w2 s1 N1) := hw2; have HX2 : Hid (w2.heap[w.heap.size]? = some (.cells cs 26 (0, 0))) := (hw2.bel.block _ (Array.getElem?_eq_some_iff.1 HX1.out).1).trans HX1.out; have p1 : w2.cell? ⟨w.heap.size, 1, none⟩ = some (.int .i64 i) := (by rw [(box_at HX2.out 1).1]; exact HC.out.2); have tok2 : True := trivial; clear hw2 hk2 _h tok1)
      | (have _h := tok2; go_at_call 23; refine (H2.out w1 _ HW2.out).mono ?_; rintro e w3 ⟨rfl, hw3, hk3⟩; have HW3 : Hid (WrS w1 w3 s2 N2) := hw3; have HX3 : Hid (w3.heap[w.heap.size]? = some (.cells cs 26 (0, 0))) := (hw3.bel.block _ (Array.getElem?_eq_some_iff.1 HX1.out).1).trans HX1.out; have tok3 : True := trivial; clear hw3 hk3 _h tok2)
      | (have _h := tok3; refine wpList_load_row rfl 26 _ rfl w.heap.size rfl 26 cs (0, 0) _ HX3.out Tryd.underlying26 rfl (by rw [HZ.out]; exact Tryd.info26) ?_; clear _h)
      | (go_at_call 25; refine (HQ.out _).mono ?_; rintro e w4 ⟨rfl, hb4⟩; have HW4 : Hid (WrS w1 w4 s2 N2) := WrS.below HW3.out hb4; clear hb4)
      | (go_at_call 24; refine (HF.out w1 _ _ _ HB1.out HFR.out HW4.out).mono ?_; rintro e w5 ⟨rfl, hw5, hk5⟩; have HW5 : Hid (WrS w1 w5 sx N3) := hw5; clear hw5 hk5)
      | (go_at_call 26; refine (HE.out w1 _ HW5.out).mono ?_; rintro e w6 ⟨⟨v, z, rfl, he⟩, rfl⟩; have HV : Hid (EndV sx w1.heap.size v z w6) := he; clear he))
    go_ret2
    exact ⟨⟨v, z, rfl, EndV.down HV.out HB1.out.size⟩, HB1.out.trans (HW5.out.bel.mono HB1.out.size)⟩
theorem rowQ_len {k : Int} : (rowOr (rowQ k)).length ≤ 7 := by
  unfold rowQ
  repeat' split
  all_goals decide
theorem req_st (k i : Int) (b : Bd) (s0 : Ls) (h0 : s0 = if (rowQ k).isSome = true then some [] else none) : (if moreB b (rowOr (rowQ k)) = true then none else oa (oa (oa s0 (eNat 1 k)) (eNat 4 i)) (eFs b (rowOr (rowQ k)))) = reqE k i b := by
  subst h0
  unfold reqE msgE
  cases hr : rowQ k with
  | none => simp [none_oa]
  | some r =>
    simp only [Option.isSome_some, if_true, rowOr, Option.getD_some, eNs, nil_oa, oa_nil]
theorem request_any (k i : Int) (b : Bd) (c : Bool) (ra : Option Addr) (rc : Nat) (w : World) (hk : In64 k) (hi : In64 i) (hb : RqB b c) (hok : BdOk w b (ptR ra rc)) : Calls Tryd.prog 11 #[.agg (rqc k i b c ra rc)] w (EncP (reqE k i b) w) := by
  have hlen := rowQ_len (k := k)
  obtain ⟨S0, hS0⟩ : ∃ S0 : Ls, S0 = if (rowQ k).isSome = true then some [] else none := ⟨_, rfl⟩
  refine request_in k i (rqc k i b c ra rc) (bdc b (ptR ra rc)) w (rowQ k) (rowOr (rowQ k)).length (rowQ k).isSome _ S0 (oa S0 (eNat 1 k)) (oa (oa S0 (eNat 1 k)) (eNat 4 i)) _ 8 16 (16 + (rowOr (rowQ k)).length * CB) ?_ rfl rfl rfl ?_ ?_ (req_st k i b S0 hS0).symm ⟨rfl, rfl⟩ (fun x => rowOf_any 0 k (.inl rfl) x) ?_ ?_ (fun x => bodyQ_any k i b c ra rc hb x) ?_
  · have := Nat.mul_le_mul_right CB hlen; unfold CB at *; omega
  · rw [hS0]; cases (rowQ k).isSome <;> rfl
  · intro L e; rw [hS0] at e; split at e
    · injection e
    · cases e
  · intro y x hx
    exact wnat_any y x _ 0 1 1 k rfl (by omega) hk (by omega) hx
  · intro y x hx
    exact wnat_any y x _ 8 4 4 i rfl (by omega) hi (by omega) hx
  · intro y x a cp hy hf hx
    refine fields_any y x _ 16 b (ptR ra rc) a cp (rowOr (rowQ k)) hlen (by omega) hf ?_ (hok.below hy) hx
    intro f hf2
    cases hr : rowQ k with
    | none => rw [hr] at hf2; cases hf2
    | some r => rw [hr] at hf2; exact (rowQ_ok hr).2 f hf2
set_option maxHeartbeats 1000000 in
set_option maxRecDepth 100000 in
theorem response_in (k i d : Int) (cs bs : Array Value) (w : World) (T : Option (List Nat)) (n : Nat) (ok : Bool) (sx s0 s1 s2 s2' s3 : Ls) (N1 N2 N2' N3 : Nat) (hN : N3 ≤ 1000000000000) (hcs : cs.size = 9) (hok : T.isSome = ok) (hn : (rowOr T).length = n) (h0 : (!ok) = s0.isNone) (h00 : ∀ L, s0 = some L → [] = L) (hx : sx = s3)
    (HC : Hid (cs[0]? = some (.int .i64 k) ∧ cs[1]? = some (.int .i64 i) ∧ cs[2]? = some (.int .i64 d)))
    (HR : Hid (∀ x, Calls Tryd.prog 36 #[.int .i64 k, .int .i64 d] x (RowP T x)))
    (H1 : Hid (∀ y x, WrS y x s0 0 → Calls Tryd.prog 23 #[.pointer (some ⟨y.heap.size, 0, none⟩), .int .i64 1, .int .i64 k] x (WP y x s1 N1)))
    (H2 : Hid (∀ y x, WrS y x s1 N1 → Calls Tryd.prog 23 #[.pointer (some ⟨y.heap.size, 0, none⟩), .int .i64 4, .int .i64 i] x (WP y x s2 N2)))
    (H3 : Hid (∀ y x, WrS y x s2 N2 → Calls Tryd.prog 23 #[.pointer (some ⟨y.heap.size, 0, none⟩), .int .i64 1, .int .i64 d] x (WP y x s2' N2')))
    (HQ : Hid (∀ x, Calls Tryd.prog 37 #[.agg cs] x fun e w' => e = .returned (.agg bs) ∧ Below x.heap.size x w'))
    (HF : Hid (∀ y x a c, Below w.heap.size w y → FRow y a (rowOr T) → WrS y x s2' N2' → Calls Tryd.prog 24 #[.pointer (some ⟨y.heap.size, 0, none⟩), .agg bs, .slice a n c] x (WP y x s3 N3))) :
    Calls Tryd.prog 17 #[.agg cs] w (EncP sx w) := by
  subst hx
  have HX0 : Hid ((w.alloc (.cells cs 40)).heap[w.heap.size]? = some (.cells cs 40 (0, 0))) := heap_alloc_new w _
  have HZ : Hid (cs.size = 9) := hcs
  have q0 : (w.alloc (.cells cs 40)).cell? ⟨w.heap.size, 0, none⟩ = some (.int .i64 k) := by rw [(box_at HX0.out 0).1]; exact HC.out.1
  have q2 : (w.alloc (.cells cs 40)).cell? ⟨w.heap.size, 2, none⟩ = some (.int .i64 d) := by rw [(box_at HX0.out 2).1]; exact HC.out.2.2
  have HI : Hid (T.isSome = ok ∧ (rowOr T).length = n) := ⟨hok, hn⟩
  have HS0 : Hid ((!ok) = s0.isNone ∧ ∀ L, s0 = some L → [] = L) := ⟨h0, h00⟩
  have HE : Hid (∀ y x, WrS y x sx N3 → Calls Tryd.prog 26 #[.pointer (some ⟨y.heap.size, 0, none⟩)] x fun e w' => EndP sx y.heap.size e w' ∧ w' = x) := fun y x hx => end_any y x sx N3 hN hx
  clear hcs hok hn h0 h00 hN
  have tok1 : True := trivial
  cases ok
  all_goals
    simp only [Bool.not_true, Bool.not_false] at HS0
    go_enter Tryd.func17, Tryd.ntmps17
    go_wp2_with (first
      | (go_at_call 36; refine (HR.out _).mono ?_; rintro e w1 ⟨⟨a1, c1, rfl, hf1⟩, hb1⟩; rw [HI.out.1, HI.out.2]; have HFR : Hid (FRow w1 a1 (rowOr T)) := hf1; have HB1 : Hid (Below w.heap.size w w1) := (below_box _).trans (hb1.mono (by simp)); have HX1 : Hid (w1.heap[w.heap.size]? = some (.cells cs 40 (0, 0))) := (hb1.block _ (Array.getElem?_eq_some_iff.1 HX0.out).1).trans HX0.out; have HW1 : Hid _ := WrS.new w1 _ s0 HS0.out.1 HS0.out.2; have p0 : w1.cell? ⟨w.heap.size, 0, none⟩ = some (.int .i64 k) := (by rw [(box_at HX1.out 0).1]; exact HC.out.1); have p1 : w1.cell? ⟨w.heap.size, 1, none⟩ = some (.int .i64 i) := (by rw [(box_at HX1.out 1).1]; exact HC.out.2.1); have p2 : w1.cell? ⟨w.heap.size, 2, none⟩ = some (.int .i64 d) := (by rw [(box_at HX1.out 2).1]; exact HC.out.2.2); have plt : w.heap.size < w1.heap.size := (Array.getElem?_eq_some_iff.1 HX1.out).1; clear hf1 hb1 q0 q2)
      | (have _h := tok1; go_at_call 23; refine (H1.out w1 _ HW1.out).mono ?_; rintro e w2 ⟨rfl, hw2, hk2⟩; have HW2 : Hid (WrS w1 w2 s1 N1) := hw2; have HX2 : Hid (w2.heap[w.heap.size]? = some (.cells cs 40 (0, 0))) := (hw2.bel.block _ (Array.getElem?_eq_some_iff.1 HX1.out).1).trans HX1.out; have p1 : w2.cell? ⟨w.heap.size, 1, none⟩ = some (.int .i64 i) := (by rw [(box_at HX2.out 1).1]; exact HC.out.2.1); have tok2 : True := trivial; clear hw2 hk2 _h tok1)
      | (have _h := tok2; go_at_call 23; refine (H2.out w1 _ HW2.out).mono ?_; rintro e w3' ⟨rfl, hw3, hk3⟩; have HW3' : Hid (WrS w1 w3' s2 N2) := hw3; have HX3' : Hid (w3'.heap[w.heap.size]? = some (.cells cs 40 (0, 0))) := (hw3.bel.block _ (Array.getElem?_eq_some_iff.1 HX1.out).1).trans HX1.out; have p2 : w3'.cell? ⟨w.heap.size, 2, none⟩ = some (.int .i64 d) := (by rw [(box_at HX3'.out 2).1]; exact HC.out.2.2); have tok25 : True := trivial; clear hw3 hk3 _h tok2)
      | (have _h := tok25; go_at_call 23; refine (H3.out w1 _ HW3'.out).mono ?_; rintro e w3 ⟨rfl, hw3, hk3⟩; have HW3 : Hid (WrS w1 w3 s2' N2') := hw3; have HX3 : Hid (w3.heap[w.heap.size]? = some (.cells cs 40 (0, 0))) := (hw3.bel.block _ (Array.getElem?_eq_some_iff.1 HX1.out).1).trans HX1.out; have tok3 : True := trivial; clear hw3 hk3 _h tok25)
      | (have _h := tok3; refine wpList_load_row rfl 40 _ rfl w.heap.size rfl 40 cs (0, 0) _ HX3.out Tryd.underlying40 rfl (by rw [HZ.out]; exact Tryd.info40) ?_; clear _h)
      | (go_at_call 37; refine (HQ.out _).mono ?_; rintro e w4 ⟨rfl, hb4⟩; have HW4 : Hid (WrS w1 w4 s2' N2') := WrS.below HW3.out hb4; clear hb4)
      | (go_at_call 24; refine (HF.out w1 _ _ _ HB1.out HFR.out HW4.out).mono ?_; rintro e w5 ⟨rfl, hw5, hk5⟩; have HW5 : Hid (WrS w1 w5 sx N3) := hw5; clear hw5 hk5)
      | (go_at_call 26; refine (HE.out w1 _ HW5.out).mono ?_; rintro e w6 ⟨⟨v, z, rfl, he⟩, rfl⟩; have HV : Hid (EndV sx w1.heap.size v z w6) := he; clear he))
    go_ret2
    exact ⟨⟨v, z, rfl, EndV.down HV.out HB1.out.size⟩, HB1.out.trans (HW5.out.bel.mono HB1.out.size)⟩
theorem ans_len {k d : Int} : (rowOr (ansRow k d)).length ≤ 7 := by
  unfold ansRow
  split
  · split
    · decide
    · unfold rowA
      repeat' split
      all_goals decide
  · cases rowA k <;> simp [rowOr]
theorem res_st (k i d : Int) (b : Bd) (s0 : Ls) (h0 : s0 = if (ansRow k d).isSome = true then some [] else none) : (if moreB b (rowOr (ansRow k d)) = true then none else oa (oa (oa (oa s0 (eNat 1 k)) (eNat 4 i)) (eNat 1 d)) (eFs b (rowOr (ansRow k d)))) = resE k i d b := by
  subst h0
  unfold resE msgE
  cases hr : ansRow k d with
  | none => simp [none_oa]
  | some r =>
    simp only [Option.isSome_some, if_true, rowOr, Option.getD_some, eNs, nil_oa, oa_nil]
    split <;> first | rfl | simp only [oa_assoc]
theorem response_any (k i d : Int) (b : Bd) (p : Pt) (w : World) (hk : In64 k) (hi : In64 i) (hd : In64 d) (hb : RsB b p) (hok : BdOk w b p) : Calls Tryd.prog 17 #[.agg (rsc k i d b p)] w (EncP (resE k i d b) w) := by
  have hlen := ans_len (k := k) (d := d)
  obtain ⟨S0, hS0⟩ : ∃ S0 : Ls, S0 = if (ansRow k d).isSome = true then some [] else none := ⟨_, rfl⟩
  refine response_in k i d (rsc k i d b p) (bdc b p) w (ansRow k d) (rowOr (ansRow k d)).length (ansRow k d).isSome _ S0 (oa S0 (eNat 1 k)) (oa (oa S0 (eNat 1 k)) (eNat 4 i)) (oa (oa (oa S0 (eNat 1 k)) (eNat 4 i)) (eNat 1 d)) _ 8 16 24 (24 + (rowOr (ansRow k d)).length * CB) ?_ rfl rfl rfl ?_ ?_ (res_st k i d b S0 hS0).symm ⟨rfl, rfl, rfl⟩ (fun x => answerRow_any k d x) ?_ ?_ ?_ (fun x => bodyS_any k i d b p hb x) ?_
  · have := Nat.mul_le_mul_right CB hlen; unfold CB at *; omega
  · rw [hS0]; cases (ansRow k d).isSome <;> rfl
  · intro L e; rw [hS0] at e; split at e
    · injection e
    · cases e
  · intro y x hx
    exact wnat_any y x _ 0 1 1 k rfl (by omega) hk (by omega) hx
  · intro y x hx
    exact wnat_any y x _ 8 4 4 i rfl (by omega) hi (by omega) hx
  · intro y x hx
    exact wnat_any y x _ 16 1 1 d rfl (by omega) hd (by omega) hx
  · intro y x a cp hy hf hx
    refine fields_any y x _ 24 b p a cp (rowOr (ansRow k d)) hlen (by omega) hf ?_ (hok.below hy) hx
    intro f hf2
    cases hr : ansRow k d with
    | none => rw [hr] at hf2; cases hf2
    | some r => rw [hr] at hf2; exact (ansRow_ok hr).2 f hf2
end Go.Proofs.YtaooidckmepdeaaDoor
