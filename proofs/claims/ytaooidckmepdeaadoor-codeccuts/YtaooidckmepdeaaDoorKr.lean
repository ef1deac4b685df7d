/- The reader: rows. -/
import Derived.Test.YtaooidckmepdeaaDoorKo
namespace Go.Proofs.YtaooidckmepdeaaDoor
set_option linter.unusedSimpArgs false
set_option linter.unusedVariables false
open Go.RowKit
theorem info9x : (Tryd.prog.info? 9).map (fun i => (i.zero, i.size, i.bytes)) = some (some (.string ⟨#[]⟩), 1, 16) := by kernel_rfl
theorem info3x : (Tryd.prog.info? 3).map (fun i => (i.zero, i.size, i.bytes)) = some (some (.int .i64 0), 1, 8) := by kernel_rfl
theorem info87x : (Tryd.prog.info? 87).map (fun i => (i.zero, i.size, i.bytes)) = some (some (.agg rz.cells), 6, 64) := by kernel_rfl
theorem info85x : (Tryd.prog.info? 85).map (fun i => (i.zero, i.size, i.bytes)) = some (some (.agg #[.int .i64 0, .int .i64 0, .int .i64 0, .int .i64 0, .slice none 0 0]), 5, 56) := by kernel_rfl
def scv (l : List ByteArray) : List Value := l.map Value.string
def icv (l : List Int) : List Value := l.map fun x => Value.int .i64 x
theorem scv_snoc (l : List ByteArray) (x : ByteArray) : scv (l ++ [x]) = scv l ++ [.string x] := by simp [scv]
theorem icv_snoc (l : List Int) (x : Int) : icv (l ++ [x]) = icv l ++ [.int .i64 x] := by simp [icv]
theorem rcv_snoc (l : List Rc) (x : Rc) : rcv (l ++ [x]) = rcv l ++ x.cells.toList := by rw [rcv_app]; simp [rcv]
theorem bcv_snoc (l : List Bs) (x : Bs) : bcv (l ++ [x]) = bcv l ++ x.cells.toList := by rw [bcv_app]; simp [bcv]
theorem owns_srow {w : World} {B : Nat} {v : Value} {l : List ByteArray} (h : w.ownsRow B 9 1 v l.length (scv l)) : ∃ a c, v = .slice a l.length c ∧ SRow w a l ∧ (a = none → c = 0) := by
  rcases h.2 with ⟨rfl, h0⟩ | ⟨g, cap, cur, rfl, hB, hg, hle, hm, _, _⟩
  · exact ⟨none, 0, by rw [h0], fun i hi => by omega, fun _ => rfl⟩
  · refine ⟨_, cap, rfl, fun i hi => ⟨g, 0, rfl, ?_⟩, fun c => by cases c⟩
    have := h.cells (g := g) rfl i (.string (l.getD i ⟨#[]⟩)) (by simp [scv, List.getD, hi])
    simpa [Addr.add_lit] using this
theorem owns_irow {w : World} {B : Nat} {v : Value} {l : List Int} (h : w.ownsRow B 3 1 v l.length (icv l)) : ∃ a c, v = .slice a l.length c ∧ IRow w a l ∧ (a = none → c = 0) := by
  rcases h.2 with ⟨rfl, h0⟩ | ⟨g, cap, cur, rfl, hB, hg, hle, hm, _, _⟩
  · exact ⟨none, 0, by rw [h0], fun i hi => by omega, fun _ => rfl⟩
  · refine ⟨_, cap, rfl, fun i hi => ⟨g, 0, rfl, ?_⟩, fun c => by cases c⟩
    have := h.cells (g := g) rfl i (.int .i64 (l.getD i 0)) (by simp [icv, List.getD, hi])
    simpa [Addr.add_lit] using this
theorem own_new {w : World} {M : Nat} {e : TypeId} {s : Nat} {a : Option Addr} {k c n : Nat} {xs : List Value} (h : w.ownsRow M e s (.slice a k c) n xs) : ∀ g, a = some g → M ≤ g.block := by
  intro g hg
  rcases h.2 with ⟨e, _⟩ | ⟨g', cap, cur, e, hM, _⟩
  · injection e with e1; rw [hg] at e1; cases e1
  · injection e with e1; rw [hg] at e1; injection e1 with e1; subst e1; exact hM
theorem RdR.grown {w0 w w' : World} {st : Ls} {M : Nat} {e : TypeId} {s : Nat} {v : Value} {n : Nat} {xs : List Value} (h : RdR w0 w st) (g : w.grownBy w' v.ownBlock) (ho : w.ownsRow M e s v n xs) (hM : w0.heap.size < M) : RdR w0 w' st := by
  obtain ⟨a, cap, hx, r⟩ := h.box
  exact ⟨⟨a, cap, (g.block _ (Array.getElem?_eq_some_iff.1 hx).1 (fun q => by have := (ho.lt _ q.symm).1; omega)).trans hx, r⟩, h.bel.grown g h.bel.size (fun k hk => by have := (ho.lt k hk).1; omega)⟩
theorem below_keepB {B : Nat} {w w' : World} (o : Obj) (k : KeepB B w w') : KeepB B w (w'.alloc o) := k.trans (KeepB.of_below (below_box _))
set_option maxHeartbeats 800000 in
set_option maxRecDepth 100000 in
theorem trow_txt (w0 w : World) (st : Ls) (h : RdR w0 w st) :
    Calls Tryd.prog 74 #[.pointer (some ⟨w0.heap.size, 0, none⟩), .func (.func 71) #[.pointer (some ⟨w0.heap.size, 0, none⟩)] #[]] w fun e w' => (∃ a c, e = .returned (.slice a (gRow gT st).1.length c) ∧ SRow w' a (gRow gT st).1 ∧ (a = none → c = 0) ∧ (∀ g, a = some g → w.heap.size ≤ g.block)) ∧ RdR w0 w' (gRow gT st).2 ∧ KeepB w0.heap.size w w' := by
  have hz : w0.heap.size < w.heap.size := by obtain ⟨a, cap, hx, _⟩ := h.box; exact (Array.getElem?_eq_some_iff.1 hx).1
  have HN : Hid _ := rnat_any w0 w st 2 2 rfl (by decide) (by decide) h
  have hn : (gN 2 st).1 < 65536 := gN_lt 2 st h.byt
  have HG : Hid (gRow gT st = gL gT (gN 2 st).1 (gN 2 st).2) := rfl
  have HBD : Hid ((gN 2 st).2 = none → (gN 2 st).1 = 0) := gN_bad
  have HO : Hid (∀ s x, RdR w0 x s → Calls Tryd.prog 71 #[.pointer (some ⟨w0.heap.size, 0, none⟩)] x (RP w0 x (.string (gT s).1) (gT s).2)) := fun s x hx => rtext_any w0 x s hx
  have HPB : Hid ((gT none).2 = none) := rfl
  clear h
  generalize gRow gT st = R at *
  generalize (gN 2 st).1 = n at *
  generalize (gN 2 st).2 = s0 at *
  have hnI : (n : Int) < 65536 := by omega
  go_enter Tryd.func74, Tryd.ntmps74
  go_wp2_with (go_at_call 32; refine Calls.mono HN.out ?_; rintro e w1 ⟨rfl, hw1, hk1⟩)
  go_loopw [4, 8] (fun v i wr => ∃ (k : Nat) (AA : List ByteArray) (s : Ls), k ≤ n ∧ i = .int .i64 k ∧ AA.length = k ∧ (s = none → n = 0 ∧ AA = []) ∧ R = gPre AA (gL gT (n - k) s) ∧ wr.ownsRow w.heap.size 9 1 v AA.length (scv AA) ∧ RdR w0 wr s ∧ KeepB w0.heap.size w wr) (fun _ i _ => n - (intOf i).toNat)
  case atStart => exact ⟨0, [], s0, by omega, rfl, rfl, fun e => ⟨HBD.out e, rfl⟩, by rw [HG.out]; exact gPre_start HPB.out _ _, World.ownsRow_nil _ _ _ _, hw1, hk1⟩
  case round =>
    clear hw1 hk1
    obtain ⟨k, AA, s, hk, rfl, hAl, hsn, hR, hown, hw1, hk1⟩ := hrel
    by_cases hlt : k < n
    · have hltI : (k : Int) < (n : Int) := by omega
      obtain ⟨ls, rfl⟩ : ∃ ls, s = some ls := by
        cases s with
        | none => have := (hsn rfl).1; omega
        | some ls => exact ⟨ls, rfl⟩
      have HC : Hid (Calls Tryd.prog 71 #[.pointer (some ⟨w0.heap.size, 0, none⟩)] wr (RP w0 wr (.string (gT (some ls)).1) (gT (some ls)).2)) := HO.out (some ls) wr hw1
      have HOWN : Hid (wr.ownsRow w.heap.size 9 1 u4 AA.length (scv AA)) := hown
      have HK1 : Hid (KeepB w0.heap.size w wr) := hk1
      have HNK : Hid (n - k = (n - (k + 1)) + 1) := by show _ = _; omega
      have HR1 : Hid ((gT (some ls)).2 = none → R = ([], none)) := fun e => by rw [hR, HNK.out]; exact gPre_bad _ _ _ e
      have HR2 : Hid (∀ l2, (gT (some ls)).2 = some l2 → R = gPre (AA ++ [(gT (some ls)).1]) (gL gT (n - (k + 1)) (some l2))) := fun l2 e => by rw [hR, HNK.out]; exact gPre_step _ _ _ _ e
      have HAL : Hid (AA.length = k) := hAl
      obtain ⟨va, vn, vc, rfl⟩ : ∃ va vn vc, u4 = .slice va vn vc := by
        rcases hown.2 with ⟨rfl, _⟩ | ⟨g, cap, cur, rfl, _⟩
        · exact ⟨_, _, _, rfl⟩
        · exact ⟨_, _, _, rfl⟩
      skip
      clear hR hown hw1 hk1 HO hsn hAl HBD HG HPB
      generalize hs2 : (gT (some ls)).2 = s2 at *
      generalize (gT (some ls)).1 = xx at *
      cases s2 with
      | none =>
        have HRN : Hid (R = ([], none)) := HR1.out rfl
        go_wp2_with (go_at_call 71; refine Calls.mono HC.out ?_; rintro e w2 ⟨rfl, hw2, hk2⟩; obtain ⟨b0, bc, hbx, _⟩ := hw2.box; have d1 := (box_at hbx 1).1; simp only [List.getElem?_toArray, List.getElem?_cons_zero, List.getElem?_cons_succ, Option.isNone_none] at d1; have hz2 : w0.heap.size < w2.heap.size := (Array.getElem?_eq_some_iff.1 hbx).1; clear hbx)
        go_ret
        rw [HRN.out]
        exact ⟨⟨none, 0, rfl, fun i hi => (by simp at hi), fun _ => rfl, fun g hg => (by cases hg)⟩, hw2, HK1.out.trans hk2⟩
      | some l2 =>
        have HRS := HR2.out l2 rfl
        have HRR2 : Hid _ := HRS
        clear HR1 HR2 HRS
        go_wp2_with (first
          | (go_at_call 71; refine Calls.mono HC.out ?_; rintro e w2 ⟨rfl, hw2, hk2⟩; obtain ⟨b0, bc, hbx, _⟩ := hw2.box; have d1 := (box_at hbx 1).1; simp only [List.getElem?_toArray, List.getElem?_cons_zero, List.getElem?_cons_succ, Option.isNone_some] at d1; have hz2 : w0.heap.size < w2.heap.size := (Array.getElem?_eq_some_iff.1 hbx).1; have HW2 : Hid (RdR w0 w2 (some l2)) := hw2; have HK2 : Hid (KeepB w0.heap.size w w2) := HK1.out.trans hk2; have HOW2 : Hid (w2.ownsRow w.heap.size 9 1 (.slice va vn vc) AA.length (scv AA)) := own_keepB HOWN.out hk2 hz; skip; clear hbx hw2 hk2 HC)
          | (at_builtin; refine wpList_append_one (by rfl) _ _ 36 9 rfl _ 1 _ Tryd.underlying36 info9x rfl (by decide) (by decide) w.heap.size _ _ _ rfl (own_any HOW2.out (below_box _)) (Nat.le_trans (Nat.le_trans HK2.out.size (Nat.le_refl _)) (by simp)) _ [Value.string xx] rfl rfl (heap_alloc_new _ _) ((by simp [Value.oneCell'])) (by rw [HAL.out]; omega) ?_; intro v3 w3 ho3 hg3; have HO3 : Hid (w3.ownsRow w.heap.size 9 1 v3 (AA.length + 1) (scv AA ++ [Value.string xx])) := ho3; have HG3 : Hid _ := hg3; clear ho3 hg3))
        refine ⟨⟨k + 1, AA ++ [xx], some l2, by omega, by go_num, by rw [List.length_append, HAL.out]; rfl, fun e => (by cases e), HRR2.out, by rw [List.length_append, scv_snoc]; exact HO3.out, ?_, ?_⟩, by simp [intOf]; omega⟩
        · exact (RdR.below HW2.out (below_box _)).grown HG3.out (own_any HOW2.out (below_box _)) hz
        · exact keepB_grown (below_keepB _ HK2.out) (own_any HOW2.out (below_box _)) HG3.out (Nat.le_refl _)
        skip
    · obtain rfl : k = n := by omega
      have HEND : Hid (s = none → AA = []) := fun e => (hsn e).2
      have HRE : Hid (R = (AA, s)) := by
        show _ = _
        rw [hR, Nat.sub_self]
        cases s with
        | none => rw [(hsn rfl).2]; rfl
        | some ls => exact gPre_end _ _
      clear hR hsn
      obtain ⟨va, vc, rfl, hsr, hnn⟩ := owns_srow hown
      have HSR : Hid (SRow wr va AA) := hsr
      have HNG : Hid (∀ g, va = some g → w.heap.size ≤ g.block) := own_new hown
      go_wp2_with fail
      go_ret
      rw [HRE.out]
      exact ⟨⟨va, vc, by rw [hAl]; rfl, HSR.out, hnn, HNG.out⟩, hw1, hk1⟩
set_option maxHeartbeats 800000 in
set_option maxRecDepth 100000 in
theorem trow_int (w0 w : World) (st : Ls) (h : RdR w0 w st) :
    Calls Tryd.prog 75 #[.pointer (some ⟨w0.heap.size, 0, none⟩), .func (.func 69) #[.pointer (some ⟨w0.heap.size, 0, none⟩)] #[]] w fun e w' => (∃ a c, e = .returned (.slice a (gRow gI st).1.length c) ∧ IRow w' a (gRow gI st).1 ∧ (a = none → c = 0) ∧ (∀ g, a = some g → w.heap.size ≤ g.block)) ∧ RdR w0 w' (gRow gI st).2 ∧ KeepB w0.heap.size w w' := by
  have hz : w0.heap.size < w.heap.size := by obtain ⟨a, cap, hx, _⟩ := h.box; exact (Array.getElem?_eq_some_iff.1 hx).1
  have HN : Hid _ := rnat_any w0 w st 2 2 rfl (by decide) (by decide) h
  have hn : (gN 2 st).1 < 65536 := gN_lt 2 st h.byt
  have HG : Hid (gRow gI st = gL gI (gN 2 st).1 (gN 2 st).2) := rfl
  have HBD : Hid ((gN 2 st).2 = none → (gN 2 st).1 = 0) := gN_bad
  have HO : Hid (∀ s x, RdR w0 x s → Calls Tryd.prog 69 #[.pointer (some ⟨w0.heap.size, 0, none⟩)] x (RP w0 x (.int .i64 (gI s).1) (gI s).2)) := fun s x hx => rnum_any w0 x s hx
  have HPB : Hid ((gI none).2 = none) := rfl
  clear h
  generalize gRow gI st = R at *
  generalize (gN 2 st).1 = n at *
  generalize (gN 2 st).2 = s0 at *
  have hnI : (n : Int) < 65536 := by omega
  go_enter Tryd.func75, Tryd.ntmps75
  go_wp2_with (go_at_call 32; refine Calls.mono HN.out ?_; rintro e w1 ⟨rfl, hw1, hk1⟩)
  go_loopw [4, 8] (fun v i wr => ∃ (k : Nat) (AA : List Int) (s : Ls), k ≤ n ∧ i = .int .i64 k ∧ AA.length = k ∧ (s = none → n = 0 ∧ AA = []) ∧ R = gPre AA (gL gI (n - k) s) ∧ wr.ownsRow w.heap.size 3 1 v AA.length (icv AA) ∧ RdR w0 wr s ∧ KeepB w0.heap.size w wr) (fun _ i _ => n - (intOf i).toNat)
  case atStart => exact ⟨0, [], s0, by omega, rfl, rfl, fun e => ⟨HBD.out e, rfl⟩, by rw [HG.out]; exact gPre_start HPB.out _ _, World.ownsRow_nil _ _ _ _, hw1, hk1⟩
  case round =>
    clear hw1 hk1
    obtain ⟨k, AA, s, hk, rfl, hAl, hsn, hR, hown, hw1, hk1⟩ := hrel
    by_cases hlt : k < n
    · have hltI : (k : Int) < (n : Int) := by omega
      obtain ⟨ls, rfl⟩ : ∃ ls, s = some ls := by
        cases s with
        | none => have := (hsn rfl).1; omega
        | some ls => exact ⟨ls, rfl⟩
      have HC : Hid (Calls Tryd.prog 69 #[.pointer (some ⟨w0.heap.size, 0, none⟩)] wr (RP w0 wr (.int .i64 (gI (some ls)).1) (gI (some ls)).2)) := HO.out (some ls) wr hw1
      have HOWN : Hid (wr.ownsRow w.heap.size 3 1 u4 AA.length (icv AA)) := hown
      have HK1 : Hid (KeepB w0.heap.size w wr) := hk1
      have HNK : Hid (n - k = (n - (k + 1)) + 1) := by show _ = _; omega
      have HR1 : Hid ((gI (some ls)).2 = none → R = ([], none)) := fun e => by rw [hR, HNK.out]; exact gPre_bad _ _ _ e
      have HR2 : Hid (∀ l2, (gI (some ls)).2 = some l2 → R = gPre (AA ++ [(gI (some ls)).1]) (gL gI (n - (k + 1)) (some l2))) := fun l2 e => by rw [hR, HNK.out]; exact gPre_step _ _ _ _ e
      have HAL : Hid (AA.length = k) := hAl
      obtain ⟨va, vn, vc, rfl⟩ : ∃ va vn vc, u4 = .slice va vn vc := by
        rcases hown.2 with ⟨rfl, _⟩ | ⟨g, cap, cur, rfl, _⟩
        · exact ⟨_, _, _, rfl⟩
        · exact ⟨_, _, _, rfl⟩
      skip
      clear hR hown hw1 hk1 HO hsn hAl HBD HG HPB
      generalize hs2 : (gI (some ls)).2 = s2 at *
      generalize (gI (some ls)).1 = xx at *
      cases s2 with
      | none =>
        have HRN : Hid (R = ([], none)) := HR1.out rfl
        go_wp2_with (go_at_call 69; refine Calls.mono HC.out ?_; rintro e w2 ⟨rfl, hw2, hk2⟩; obtain ⟨b0, bc, hbx, _⟩ := hw2.box; have d1 := (box_at hbx 1).1; simp only [List.getElem?_toArray, List.getElem?_cons_zero, List.getElem?_cons_succ, Option.isNone_none] at d1; have hz2 : w0.heap.size < w2.heap.size := (Array.getElem?_eq_some_iff.1 hbx).1; clear hbx)
        go_ret
        rw [HRN.out]
        exact ⟨⟨none, 0, rfl, fun i hi => (by simp at hi), fun _ => rfl, fun g hg => (by cases hg)⟩, hw2, HK1.out.trans hk2⟩
      | some l2 =>
        have HRS := HR2.out l2 rfl
        have HRR2 : Hid _ := HRS
        clear HR1 HR2 HRS
        go_wp2_with (first
          | (go_at_call 69; refine Calls.mono HC.out ?_; rintro e w2 ⟨rfl, hw2, hk2⟩; obtain ⟨b0, bc, hbx, _⟩ := hw2.box; have d1 := (box_at hbx 1).1; simp only [List.getElem?_toArray, List.getElem?_cons_zero, List.getElem?_cons_succ, Option.isNone_some] at d1; have hz2 : w0.heap.size < w2.heap.size := (Array.getElem?_eq_some_iff.1 hbx).1; have HW2 : Hid (RdR w0 w2 (some l2)) := hw2; have HK2 : Hid (KeepB w0.heap.size w w2) := HK1.out.trans hk2; have HOW2 : Hid (w2.ownsRow w.heap.size 3 1 (.slice va vn vc) AA.length (icv AA)) := own_keepB HOWN.out hk2 hz; skip; clear hbx hw2 hk2 HC)
          | (at_builtin; refine wpList_append_one (by rfl) _ _ 37 3 rfl _ 1 _ Tryd.underlying37 info3x rfl (by decide) (by decide) w.heap.size _ _ _ rfl (own_any HOW2.out (below_box _)) (Nat.le_trans (Nat.le_trans HK2.out.size (Nat.le_refl _)) (by simp)) _ [Value.int .i64 xx] rfl rfl (heap_alloc_new _ _) ((by simp [Value.oneCell'])) (by rw [HAL.out]; omega) ?_; intro v3 w3 ho3 hg3; have HO3 : Hid (w3.ownsRow w.heap.size 3 1 v3 (AA.length + 1) (icv AA ++ [Value.int .i64 xx])) := ho3; have HG3 : Hid _ := hg3; clear ho3 hg3))
        refine ⟨⟨k + 1, AA ++ [xx], some l2, by omega, by go_num, by rw [List.length_append, HAL.out]; rfl, fun e => (by cases e), HRR2.out, by rw [List.length_append, icv_snoc]; exact HO3.out, ?_, ?_⟩, by simp [intOf]; omega⟩
        · exact (RdR.below HW2.out (below_box _)).grown HG3.out (own_any HOW2.out (below_box _)) hz
        · exact keepB_grown (below_keepB _ HK2.out) (own_any HOW2.out (below_box _)) HG3.out (Nat.le_refl _)
        skip
    · obtain rfl : k = n := by omega
      have HEND : Hid (s = none → AA = []) := fun e => (hsn e).2
      have HRE : Hid (R = (AA, s)) := by
        show _ = _
        rw [hR, Nat.sub_self]
        cases s with
        | none => rw [(hsn rfl).2]; rfl
        | some ls => exact gPre_end _ _
      clear hR hsn
      obtain ⟨va, vc, rfl, hsr, hnn⟩ := owns_irow hown
      have HSR : Hid (IRow wr va AA) := hsr
      have HNG : Hid (∀ g, va = some g → w.heap.size ≤ g.block) := own_new hown
      go_wp2_with fail
      go_ret
      rw [HRE.out]
      exact ⟨⟨va, vc, by rw [hAl]; rfl, HSR.out, hnn, HNG.out⟩, hw1, hk1⟩
set_option maxHeartbeats 800000 in
set_option maxRecDepth 100000 in
theorem trow_rec (w0 w : World) (st : Ls) (h : RdR w0 w st) :
    Calls Tryd.prog 72 #[.pointer (some ⟨w0.heap.size, 0, none⟩), .func (.func 73) #[.pointer (some ⟨w0.heap.size, 0, none⟩)] #[]] w fun e w' => (∃ a c, e = .returned (.slice a (gRow gRec st).1.length c) ∧ RRow w' a (gRow gRec st).1 ∧ (a = none → c = 0) ∧ (∀ g, a = some g → w.heap.size ≤ g.block)) ∧ RdR w0 w' (gRow gRec st).2 ∧ KeepB w0.heap.size w w' := by
  have hz : w0.heap.size < w.heap.size := by obtain ⟨a, cap, hx, _⟩ := h.box; exact (Array.getElem?_eq_some_iff.1 hx).1
  have HN : Hid _ := rnat_any w0 w st 2 2 rfl (by decide) (by decide) h
  have hn : (gN 2 st).1 < 65536 := gN_lt 2 st h.byt
  have HG : Hid (gRow gRec st = gL gRec (gN 2 st).1 (gN 2 st).2) := rfl
  have HBD : Hid ((gN 2 st).2 = none → (gN 2 st).1 = 0) := gN_bad
  have HO : Hid (∀ s x, RdR w0 x s → Calls Tryd.prog 73 #[.pointer (some ⟨w0.heap.size, 0, none⟩)] x (RP w0 x (.agg (gRec s).1.cells) (gRec s).2)) := fun s x hx => rrec_any w0 x s hx
  have HPB : Hid ((gRec none).2 = none) := pr_rec.bad
  clear h
  generalize gRow gRec st = R at *
  generalize (gN 2 st).1 = n at *
  generalize (gN 2 st).2 = s0 at *
  have hnI : (n : Int) < 65536 := by omega
  go_enter Tryd.func72, Tryd.ntmps72
  go_wp2_with (go_at_call 32; refine Calls.mono HN.out ?_; rintro e w1 ⟨rfl, hw1, hk1⟩)
  go_loopw [4, 8] (fun v i wr => ∃ (k : Nat) (AA : List Rc) (s : Ls), k ≤ n ∧ i = .int .i64 k ∧ AA.length = k ∧ (s = none → n = 0 ∧ AA = []) ∧ R = gPre AA (gL gRec (n - k) s) ∧ wr.ownsRow w.heap.size 87 6 v AA.length (rcv AA) ∧ RdR w0 wr s ∧ KeepB w0.heap.size w wr) (fun _ i _ => n - (intOf i).toNat)
  case atStart => exact ⟨0, [], s0, by omega, rfl, rfl, fun e => ⟨HBD.out e, rfl⟩, by rw [HG.out]; exact gPre_start HPB.out _ _, World.ownsRow_nil _ _ _ _, hw1, hk1⟩
  case round =>
    clear hw1 hk1
    obtain ⟨k, AA, s, hk, rfl, hAl, hsn, hR, hown, hw1, hk1⟩ := hrel
    by_cases hlt : k < n
    · have hltI : (k : Int) < (n : Int) := by omega
      obtain ⟨ls, rfl⟩ : ∃ ls, s = some ls := by
        cases s with
        | none => have := (hsn rfl).1; omega
        | some ls => exact ⟨ls, rfl⟩
      have HC : Hid (Calls Tryd.prog 73 #[.pointer (some ⟨w0.heap.size, 0, none⟩)] wr (RP w0 wr (.agg (gRec (some ls)).1.cells) (gRec (some ls)).2)) := HO.out (some ls) wr hw1
      have HOWN : Hid (wr.ownsRow w.heap.size 87 6 u4 AA.length (rcv AA)) := hown
      have HK1 : Hid (KeepB w0.heap.size w wr) := hk1
      have HNK : Hid (n - k = (n - (k + 1)) + 1) := by show _ = _; omega
      have HR1 : Hid ((gRec (some ls)).2 = none → R = ([], none)) := fun e => by rw [hR, HNK.out]; exact gPre_bad _ _ _ e
      have HR2 : Hid (∀ l2, (gRec (some ls)).2 = some l2 → R = gPre (AA ++ [(gRec (some ls)).1]) (gL gRec (n - (k + 1)) (some l2))) := fun l2 e => by rw [hR, HNK.out]; exact gPre_step _ _ _ _ e
      have HAL : Hid (AA.length = k) := hAl
      obtain ⟨va, vn, vc, rfl⟩ : ∃ va vn vc, u4 = .slice va vn vc := by
        rcases hown.2 with ⟨rfl, _⟩ | ⟨g, cap, cur, rfl, _⟩
        · exact ⟨_, _, _, rfl⟩
        · exact ⟨_, _, _, rfl⟩
      skip
      clear hR hown hw1 hk1 HO hsn hAl HBD HG HPB
      generalize hs2 : (gRec (some ls)).2 = s2 at *
      generalize (gRec (some ls)).1 = xx at *
      obtain ⟨x0, x1, x2, x3, x4, x5⟩ := xx
      simp only [Rc.cells] at HC
      cases s2 with
      | none =>
        have HRN : Hid (R = ([], none)) := HR1.out rfl
        go_wp2_with (go_at_call 73; refine Calls.mono HC.out ?_; rintro e w2 ⟨rfl, hw2, hk2⟩; obtain ⟨b0, bc, hbx, _⟩ := hw2.box; have d1 := (box_at hbx 1).1; simp only [List.getElem?_toArray, List.getElem?_cons_zero, List.getElem?_cons_succ, Option.isNone_none] at d1; have hz2 : w0.heap.size < w2.heap.size := (Array.getElem?_eq_some_iff.1 hbx).1; clear hbx)
        go_ret
        rw [HRN.out]
        exact ⟨⟨none, 0, rfl, fun i hi => (by simp at hi), fun _ => rfl, fun g hg => (by cases hg)⟩, hw2.below (below_box _), (HK1.out.trans hk2).trans (KeepB.of_below (below_box _))⟩
      | some l2 =>
        have HRS := HR2.out l2 rfl
        have HRR2 : Hid _ := HRS
        clear HR1 HR2 HRS
        go_wp2_with (first
          | (go_at_call 73; refine Calls.mono HC.out ?_; rintro e w2 ⟨rfl, hw2, hk2⟩; obtain ⟨b0, bc, hbx, _⟩ := hw2.box; have d1 := (box_at hbx 1).1; simp only [List.getElem?_toArray, List.getElem?_cons_zero, List.getElem?_cons_succ, Option.isNone_some] at d1; have hz2 : w0.heap.size < w2.heap.size := (Array.getElem?_eq_some_iff.1 hbx).1; have HW2 : Hid (RdR w0 w2 (some l2)) := hw2; have HK2 : Hid (KeepB w0.heap.size w w2) := HK1.out.trans hk2; have HOW2 : Hid (w2.ownsRow w.heap.size 87 6 (.slice va vn vc) AA.length (rcv AA)) := own_keepB HOWN.out hk2 hz; have HOW3 : Hid (((w2.alloc (.cells #[.bool x0, .string x1, .bool x2, .string x3, .int .i64 x4, .int .i64 x5] 87)).alloc (.cells #[.bool x0, .string x1, .bool x2, .string x3, .int .i64 x4, .int .i64 x5] 87)).ownsRow w.heap.size 87 6 (.slice va vn vc) AA.length (rcv AA)) := own_any HOW2.out ((below_box _).trans ((below_box _).mono (by simp))); have HLE3 : Hid (w.heap.size ≤ ((w2.alloc (.cells #[.bool x0, .string x1, .bool x2, .string x3, .int .i64 x4, .int .i64 x5] 87)).alloc (.cells #[.bool x0, .string x1, .bool x2, .string x3, .int .i64 x4, .int .i64 x5] 87)).heap.size) := (by show _ ≤ _; have := HK2.out.size; simp; omega); have HNEW : Hid (((w2.alloc (.cells #[.bool x0, .string x1, .bool x2, .string x3, .int .i64 x4, .int .i64 x5] 87)).alloc (.cells #[.bool x0, .string x1, .bool x2, .string x3, .int .i64 x4, .int .i64 x5] 87)).heap[w2.heap.size + 1]? = some (.cells (List.toArray [Value.bool x0, Value.string x1, Value.bool x2, Value.string x3, Value.int .i64 x4, Value.int .i64 x5]) 87 (0, 0))) := (by have q := heap_alloc_new (w2.alloc (.cells #[.bool x0, .string x1, .bool x2, .string x3, .int .i64 x4, .int .i64 x5] 87)) (.cells #[.bool x0, .string x1, .bool x2, .string x3, .int .i64 x4, .int .i64 x5] 87); rw [show (w2.alloc (.cells #[.bool x0, .string x1, .bool x2, .string x3, .int .i64 x4, .int .i64 x5] 87)).heap.size = w2.heap.size + 1 by simp] at q; exact q); clear hbx hw2 hk2 HC)
          | (at_builtin; refine wpList_append_one (by rfl) _ _ 24 87 rfl _ 6 _ Tryd.underlying24 info87x rfl (by decide) (by decide) w.heap.size _ _ _ rfl (HOW3.out) (HLE3.out) _ [Value.bool x0, Value.string x1, Value.bool x2, Value.string x3, Value.int .i64 x4, Value.int .i64 x5] rfl rfl (HNEW.out) ((by simp [Value.oneCell'])) (by rw [HAL.out]; omega) ?_; intro v3 w3 ho3 hg3; have HO3 : Hid (w3.ownsRow w.heap.size 87 6 v3 (AA.length + 1) (rcv AA ++ [Value.bool x0, Value.string x1, Value.bool x2, Value.string x3, Value.int .i64 x4, Value.int .i64 x5])) := ho3; have HG3 : Hid _ := hg3; clear ho3 hg3))
        refine ⟨⟨k + 1, AA ++ [⟨x0, x1, x2, x3, x4, x5⟩], some l2, by omega, by go_num, by rw [List.length_append, HAL.out]; rfl, fun e => (by cases e), HRR2.out, by rw [List.length_append, rcv_snoc]; exact HO3.out, ?_, ?_⟩, by simp [intOf]; omega⟩
        · exact (RdR.below (RdR.below HW2.out (below_box _)) (below_box _)).grown HG3.out HOW3.out hz
        · exact keepB_grown (below_keepB _ (below_keepB _ HK2.out)) HOW3.out HG3.out (Nat.le_refl _)
        skip
    · obtain rfl : k = n := by omega
      have HEND : Hid (s = none → AA = []) := fun e => (hsn e).2
      have HRE : Hid (R = (AA, s)) := by
        show _ = _
        rw [hR, Nat.sub_self]
        cases s with
        | none => rw [(hsn rfl).2]; rfl
        | some ls => exact gPre_end _ _
      clear hR hsn
      obtain ⟨va, vc, rfl, hsr, hnn, _⟩ := owns_rrow hown
      have HSR : Hid (RRow wr va AA) := hsr
      have HNG : Hid (∀ g, va = some g → w.heap.size ≤ g.block) := own_new hown
      go_wp2_with fail
      go_ret
      rw [HRE.out]
      exact ⟨⟨va, vc, by rw [hAl]; rfl, HSR.out, hnn, HNG.out⟩, hw1, hk1⟩
end Go.Proofs.YtaooidckmepdeaaDoor
