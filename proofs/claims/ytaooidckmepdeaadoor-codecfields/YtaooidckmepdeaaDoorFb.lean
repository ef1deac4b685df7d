/- CodecFields: the walk. -/
import Derived.Test.YtaooidckmepdeaaDoorFa
namespace Go.Proofs.YtaooidckmepdeaaDoor
set_option linter.unusedSimpArgs false
set_option linter.unusedVariables false
open Go.RowKit
set_option maxHeartbeats 800000 in
set_option maxRecDepth 100000 in
theorem fields_none (k0 i0 : Int) (b0 : Bd) (c0 : Bool) (ra0 : Option Addr) (rc0 : Nat) (w : World) (ht : Tab w) (w0 : ReqIn w k0 i0 b0 c0 ra0 rc0) (hE : reqE k0 i0 b0 = none) : Calls Tryd.prog 6 #[.agg (rqc k0 i0 b0 c0 ra0 rc0)] w fun e w' => e = .returned (.bool true) ∧ Below w.heap.size w w' := by
  have HA : Hid (∀ x, Tab x → Calls Tryd.prog 10 #[] x fun e w' => e = .returned (.bool true) ∧ Below x.heap.size x w') := fun x h => awake_any x h
  have HI : Hid (∀ x, Below w.heap.size w x → Calls Tryd.prog 9 #[.agg (rqc k0 i0 b0 c0 ra0 rc0)] x fun e w' => IsQ b0 e ∧ Below x.heap.size x w') := fun x hx => in2_any _ _ _ _ _ _ x (w0.below hx)
  have HQ : Hid (∀ x, Below w.heap.size w x → LookQ b0 → Calls Tryd.prog 11 #[.agg (rqc k0 i0 b0 c0 ra0 rc0)] x fun e w' => e = .returned (.tuple #[.slice none 0 0, .int .i64 1]) ∧ Below x.heap.size x w') := fun x hx hl => by
    have q := request_any k0 i0 b0 c0 ra0 rc0 x w0.hk w0.hi w0.hb ((w0.below hx).ok (ht.below hx) (by have := hl.n; omega))
    rw [hE] at q
    exact Calls.mono q (fun e w' h => EncP.none h)
  have HT : Hid (Tab w) := ht
  have HB : Hid (BxW w 26 (rqc k0 i0 b0 c0 ra0 rc0) (w.alloc (.cells (rqc k0 i0 b0 c0 ra0 rc0) 26))) := BxW.new _ _ _
  have HZ : Hid ((rqc k0 i0 b0 c0 ra0 rc0).size = 17) := rfl
  clear ht w0 hE
  generalize (rqc k0 i0 b0 c0 ra0 rc0) = cs at *
  go_enter Tryd.func6, Tryd.ntmps6
  go_wp2_with (first
    | (have _h := HB; refine wpList_load_row rfl 26 _ rfl w.heap.size rfl 26 cs (0, 0) _ HB.out.box Tryd.underlying26 rfl (by rw [HZ.out]; exact Tryd.info26) ?_; clear _h)
    | (go_at_call 9; refine (HI.out _ HB.out.bel).mono ?_; rintro e w1 ⟨⟨sm, rfl, hsm⟩, hb1⟩; have HB1 : Hid (BxW w 26 cs w1) := BxW.below HB.out hb1; clear HB; have HB : Hid (BxW w 26 cs w1) := HB1; have HSM : Hid (sm = true → LookQ b0) := hsm; clear hsm hb1 HB1; cases sm)
    | (go_at_call 11; refine (HQ.out _ HB.out.bel (HSM.out (by trivial))).mono ?_; rintro e w2 ⟨rfl, hb2⟩; have HB2 : Hid (BxW w 26 cs w2) := BxW.below HB.out hb2; clear HB; have HB : Hid (BxW w 26 cs w2) := HB2; clear HB2; clear hb2)
    | (go_at_call 10; refine (HA.out _ (HT.out.below HB.out.bel)).mono ?_; rintro e w3 ⟨rfl, hb3⟩; have HB3 : Hid (Below w.heap.size w w3) := HB.out.bel.trans (hb3.mono HB.out.bel.size); clear hb3))
  all_goals (go_ret; exact ⟨rfl, HB3.out⟩)
theorem box_cell {w y : World} {cs C : Array Value} {g i : Nat} {v : Value} (h : BxW w 26 cs y) (hg : y.heap[g]? = some (.cells cs 26 (0, 0))) (hl : w.heap.size < g) (hc : C = cs.setIfInBounds i v) : BxW w 26 cs (y.setCell ⟨g, i, none⟩ v) ∧ (y.setCell ⟨g, i, none⟩ v).heap[g]? = some (.cells C 26 (0, 0)) := by
  subst hc
  refine ⟨⟨?_, h.bel.setCell (p := ⟨g, i, none⟩) (by show w.heap.size ≤ g; omega) v⟩, setCell_heap hg i v⟩
  exact (((Below.refl g y).setCell (p := ⟨g, i, none⟩) (Nat.le_refl g) v).block _ hl).trans h.box
theorem box_see {y : World} {cs : Array Value} {g i : Nat} {v : Value} (h : y.heap[g]? = some (.cells cs 26 (0, 0))) (hv : cs[i]? = some v) : y.cell? ⟨g, i, none⟩ = some v ∧ y.frozen? ⟨g, i, none⟩ = false := ⟨(box_at h i).1.trans hv, (box_at h i).2⟩
theorem one_or (d : Bool) : one d = 1 ∨ one d = 0 := by cases d; exact .inr rfl; exact .inl rfl
theorem hn_eq {a b c : Int} (h : a = b) (e : c = b) : c = a := e.trans h.symm
set_option maxHeartbeats 800000 in
set_option maxRecDepth 100000 in
theorem fields_some (k0 i0 : Int) (b0 : Bd) (c0 : Bool) (ra0 : Option Addr) (rc0 : Nat) (L : List Nat) (w : World) (ht : Tab w) (w0 : ReqIn w k0 i0 b0 c0 ra0 rc0) (hE : reqE k0 i0 b0 = some L) : Calls Tryd.prog 6 #[.agg (rqc k0 i0 b0 c0 ra0 rc0)] w fun e w' => e = .returned (.bool true) ∧ Below w.heap.size w w' := by
  have HA : Hid (∀ x, Tab x → Calls Tryd.prog 10 #[] x fun e w' => e = .returned (.bool true) ∧ Below x.heap.size x w') := fun x h => awake_any x h
  have HI : Hid (∀ x, Below w.heap.size w x → Calls Tryd.prog 9 #[.agg (rqc k0 i0 b0 c0 ra0 rc0)] x fun e w' => IsQ b0 e ∧ Below x.heap.size x w') := fun x hx => in2_any _ _ _ _ _ _ x (w0.below hx)
  have HQ : Hid (∀ x, Below w.heap.size w x → LookQ b0 → Calls Tryd.prog 11 #[.agg (rqc k0 i0 b0 c0 ra0 rc0)] x fun e w' => (∃ a c, e = .returned (.tuple #[.slice a L.length c, .int .i64 0]) ∧ BOk w' a c L) ∧ Below x.heap.size x w') := fun x hx hl => by
    have q := request_any k0 i0 b0 c0 ra0 rc0 x w0.hk w0.hi w0.hb ((w0.below hx).ok (ht.below hx) (by have := hl.n; omega))
    rw [hE] at q
    refine Calls.mono q (fun e w' h => ?_)
    obtain ⟨a, c, e1, r, b⟩ := EncP.some2 h
    exact ⟨⟨a, c, e1, r⟩, b⟩
  have HT : Hid (Tab w) := ht
  have HB : Hid (BxW w 26 (rqc k0 i0 b0 c0 ra0 rc0) (w.alloc (.cells (rqc k0 i0 b0 c0 ra0 rc0) 26))) := BxW.new _ _ _
  have HZ : Hid ((rqc k0 i0 b0 c0 ra0 rc0).size = 17) := rfl
  have KA : Hid (∀ x : World, (Instr.alloc 26 true (.tuple #[])).run Tryd.prog x = .ok (.pointer (some ⟨x.heap.size, 0, none⟩)) (x.alloc (.cells z26 26))) := run_alloc26
  have HZS : Hid (z26.size = 17) := rfl
  have HS1 : Hid (LookQ b0 → (b0 1).t.size ≤ 140000) := fun h => by have := h.t; omega
  have HO : Hid ((rqc k0 i0 b0 c0 ra0 rc0).all (·.oneCell') = true) := by show _ = _; simp [rqc, Value.oneCell']
  obtain ⟨D, hD⟩ : ∃ D : Nat → Bool, D = fun j => (reqE k0 i0 (bx b0 j)).isNone := ⟨_, rfl⟩
  have HD3 : Hid (3 ≤ cnt D 6) := by show _ ≤ _; rw [hD]; exact cnt_three w0.hb.v hE
  have HQ2 : Hid (∀ j x z, one (D j) = z → Below w.heap.size w x → LookQ b0 → Calls Tryd.prog 11 #[.agg (rqc k0 i0 (bx b0 j) c0 ra0 rc0)] x fun e w' => (∃ v, e = .returned (.tuple #[v, .int .i64 z])) ∧ Below x.heap.size x w') := fun j x z hz hx hl => by
    subst hz
    rw [hD]
    exact Calls.mono (request_any k0 i0 (bx b0 j) c0 ra0 rc0 x w0.hk w0.hi (bx_b w0.hb j) (bx_ok ((w0.below hx).ok (ht.below hx) (by have := hl.n; omega)) (hl.texts w0.hb 1) j)) (fun e w' h => encP_code h)
  have HR2 : Hid (∀ j x z, one (D j) = z → Below w.heap.size w x → LookQ b0 → Calls Tryd.prog 12 #[.agg (rqc k0 i0 (bx b0 j) c0 ra0 rc0)] x fun e w' => (∃ v, e = .returned (.tuple #[v, .int .i64 z])) ∧ Below x.heap.size x w') := fun j x z hz hx hl => by
    subst hz
    rw [hD]
    exact Calls.mono (refReq_any k0 i0 (bx b0 j) c0 ra0 rc0 x (bx_b w0.hb j) (bx_t (hl.texts w0.hb) j) (by rw [bx_11]; exact hl.n) (by rw [bx_11]; exact (w0.below hx).r) (by rw [bx_11]; exact hl.recs w0.hb)) (fun e w' h => encP_code h)
  have C0 : Hid ((rqc k0 i0 b0 c0 ra0 rc0)[16]? = some (.string ((b0 1).t)) ∧ (rqc k0 i0 (bx b0 0) c0 ra0 rc0) = (rqc k0 i0 b0 c0 ra0 rc0).setIfInBounds 16 (.string ((b0 1).t ++ ⟨#[103]⟩))) := ⟨rfl, rfl⟩
  have C1 : Hid ((rqc k0 i0 b0 c0 ra0 rc0)[15]? = some (.int .i64 ((b0 14).n)) ∧ (rqc k0 i0 (bx b0 1) c0 ra0 rc0) = (rqc k0 i0 b0 c0 ra0 rc0).setIfInBounds 15 (.int .i64 (bits .xor .i64 ((b0 14).n) 8))) := ⟨rfl, rfl⟩
  have C2 : Hid ((rqc k0 i0 b0 c0 ra0 rc0)[4]? = some (.int .i64 ((b0 3).n)) ∧ (rqc k0 i0 (bx b0 2) c0 ra0 rc0) = (rqc k0 i0 b0 c0 ra0 rc0).setIfInBounds 4 (.int .i64 (bits .xor .i64 ((b0 3).n) 8))) := ⟨rfl, rfl⟩
  have C3 : Hid ((rqc k0 i0 b0 c0 ra0 rc0)[11]? = some (.int .i64 ((b0 10).n)) ∧ (rqc k0 i0 (bx b0 3) c0 ra0 rc0) = (rqc k0 i0 b0 c0 ra0 rc0).setIfInBounds 11 (.int .i64 (bits .xor .i64 ((b0 10).n) 8))) := ⟨rfl, rfl⟩
  have C4 : Hid ((rqc k0 i0 b0 c0 ra0 rc0)[14]? = some (.int .i64 ((b0 13).n)) ∧ (rqc k0 i0 (bx b0 4) c0 ra0 rc0) = (rqc k0 i0 b0 c0 ra0 rc0).setIfInBounds 14 (.int .i64 (bits .xor .i64 ((b0 13).n) 8))) := ⟨rfl, rfl⟩
  have C5 : Hid ((rqc k0 i0 b0 c0 ra0 rc0)[9]? = some (.int .i64 ((b0 8).n)) ∧ (rqc k0 i0 (bx b0 5) c0 ra0 rc0) = (rqc k0 i0 b0 c0 ra0 rc0).setIfInBounds 9 (.int .i64 (bits .xor .i64 ((b0 8).n) 8))) := ⟨rfl, rfl⟩
  have HJS : Hid (∀ j, (rqc k0 i0 (bx b0 j) c0 ra0 rc0).size = 17) := fun _ => rfl
  obtain ⟨cj, hcj⟩ : ∃ cj : Nat → Array Value, cj = fun j => rqc k0 i0 (bx b0 j) c0 ra0 rc0 := ⟨_, rfl⟩
  have ecj : ∀ j, rqc k0 i0 (bx b0 j) c0 ra0 rc0 = cj j := fun j => by rw [hcj]
  simp only [ecj] at HQ2 HR2 HJS C0 C1 C2 C3 C4 C5
  clear ht w0 hE hcj ecj hD
  generalize (rqc k0 i0 b0 c0 ra0 rc0) = cs at *
  generalize z26 = ZB at *
  generalize (b0 1).t = s1 at *
  generalize (b0 14).n = n1 at *
  generalize (b0 3).n = n2 at *
  generalize (b0 10).n = n3 at *
  generalize (b0 13).n = n4 at *
  generalize (b0 8).n = n5 at *
  go_enter Tryd.func6, Tryd.ntmps6
  go_wp2_with (first
    | (have _h := HB; refine wpList_load_row rfl 26 _ rfl w.heap.size rfl 26 cs (0, 0) _ HB.out.box Tryd.underlying26 rfl (by rw [HZ.out]; exact Tryd.info26) ?_; clear _h)
    | (go_at_call 9; refine (HI.out _ HB.out.bel).mono ?_; rintro e w1 ⟨⟨sm, rfl, hsm⟩, hb1⟩; have HB1 : Hid (BxW w 26 cs w1) := BxW.below HB.out hb1; clear HB; have HB : Hid (BxW w 26 cs w1) := HB1; have HSM : Hid (sm = true → LookQ b0) := hsm; clear hsm hb1 HB1; cases sm)
    | (go_at_call 11; refine (HQ.out _ HB.out.bel (HSM.out (by trivial))).mono ?_; rintro e w2 ⟨⟨a2, c2, rfl, hk2⟩, hb2⟩; have HB2 : Hid (BxW w 26 cs w2) := BxW.below HB.out hb2; clear HB; have HB : Hid (BxW w 26 cs w2) := HB2; clear HB2; clear hk2 hb2)
    | (go_at_call 10; refine (HA.out _ (HT.out.below HB.out.bel)).mono ?_; rintro e w3 ⟨rfl, hb3⟩; have HB3 : Hid (Below w.heap.size w w3) := HB.out.bel.trans (hb3.mono HB.out.bel.size); clear hb3))
  · go_ret
    exact ⟨rfl, HB3.out⟩
  clear HQ
  have HLK : Hid (LookQ b0) := HSM.out (by trivial)
  clear HSM
  go_loopw [5, 6] (fun ov iv wr => ∃ (j : Nat) (q x : Int), j ≤ 6 ∧ ov = .int .i64 q ∧ q = cnt D j ∧ iv = .int .i64 x ∧ x = (j : Int) ∧ BxW w 26 cs wr) (fun _ iv _ => 6 - (iof iv).toNat)
  case atStart => exact ⟨0, 0, 0, by omega, rfl, rfl, rfl, rfl, HB.out⟩
  case round =>
    clear HB
    obtain ⟨j, q, x, hj, rfl, hq, rfl, hx, hbw⟩ := hrel
    have HB : Hid (BxW w 26 cs wr) := hbw
    have hq1 : 0 ≤ q := by rw [hq]; exact (cnt_in D j).1
    have hq2 : q ≤ 6 := by rw [hq]; have := (cnt_in D j).2; omega
    clear hbw
    by_cases h6 : j = 6
    · subst h6
      have hx6 : x = 6 := hx
      subst hx6
      have hq3 : 3 ≤ q := by rw [hq]; exact HD3.out
      clear hq hx hj HD3
      go_wp2_with (first
        | (go_at_call 10; refine (HA.out _ (HT.out.below HB.out.bel)).mono ?_; rintro e w3 ⟨rfl, hb3⟩; have HB3 : Hid (Below w.heap.size w w3) := HB.out.bel.trans (hb3.mono HB.out.bel.size); clear hb3))
      go_ret
      exact ⟨rfl, HB3.out⟩
    · rcases (show j = 0 ∨ j = 1 ∨ j = 2 ∨ j = 3 ∨ j = 4 ∨ j = 5 by omega) with rfl | rfl | rfl | rfl | rfl | rfl
      all_goals (first
        | (have hxj : x = 0 := hx
           subst hxj
           have HNX : Hid (∀ z, one (D 0) = z → cnt D (0 + 1) = q + z) := fun z hz => by rw [hq, ← hz]; rfl
           have HJJ : Hid (cs[16]? = some (.string (s1))) := C0.out.1
           have HJK : Hid (cj 0 = cs.setIfInBounds 16 (.string (s1 ++ ⟨#[103]⟩))) := C0.out.2
           have HZO : Hid (one (D 0) = 1 ∨ one (D 0) = 0) := one_or _)
        | (have hxj : x = 1 := hx
           subst hxj
           have HNX : Hid (∀ z, one (D 1) = z → cnt D (1 + 1) = q + z) := fun z hz => by rw [hq, ← hz]; rfl
           have HJJ : Hid (cs[15]? = some (.int .i64 (n1))) := C1.out.1
           have HJK : Hid (cj 1 = cs.setIfInBounds 15 (.int .i64 (bits .xor .i64 n1 8))) := C1.out.2
           have HZO : Hid (one (D 1) = 1 ∨ one (D 1) = 0) := one_or _)
        | (have hxj : x = 2 := hx
           subst hxj
           have HNX : Hid (∀ z, one (D 2) = z → cnt D (2 + 1) = q + z) := fun z hz => by rw [hq, ← hz]; rfl
           have HJJ : Hid (cs[4]? = some (.int .i64 (n2))) := C2.out.1
           have HJK : Hid (cj 2 = cs.setIfInBounds 4 (.int .i64 (bits .xor .i64 n2 8))) := C2.out.2
           have HZO : Hid (one (D 2) = 1 ∨ one (D 2) = 0) := one_or _)
        | (have hxj : x = 3 := hx
           subst hxj
           have HNX : Hid (∀ z, one (D 3) = z → cnt D (3 + 1) = q + z) := fun z hz => by rw [hq, ← hz]; rfl
           have HJJ : Hid (cs[11]? = some (.int .i64 (n3))) := C3.out.1
           have HJK : Hid (cj 3 = cs.setIfInBounds 11 (.int .i64 (bits .xor .i64 n3 8))) := C3.out.2
           have HZO : Hid (one (D 3) = 1 ∨ one (D 3) = 0) := one_or _)
        | (have hxj : x = 4 := hx
           subst hxj
           have HNX : Hid (∀ z, one (D 4) = z → cnt D (4 + 1) = q + z) := fun z hz => by rw [hq, ← hz]; rfl
           have HJJ : Hid (cs[14]? = some (.int .i64 (n4))) := C4.out.1
           have HJK : Hid (cj 4 = cs.setIfInBounds 14 (.int .i64 (bits .xor .i64 n4 8))) := C4.out.2
           have HZO : Hid (one (D 4) = 1 ∨ one (D 4) = 0) := one_or _)
        | (have hxj : x = 5 := hx
           subst hxj
           have HNX : Hid (∀ z, one (D 5) = z → cnt D (5 + 1) = q + z) := fun z hz => by rw [hq, ← hz]; rfl
           have HJJ : Hid (cs[9]? = some (.int .i64 (n5))) := C5.out.1
           have HJK : Hid (cj 5 = cs.setIfInBounds 9 (.int .i64 (bits .xor .i64 n5 8))) := C5.out.2
           have HZO : Hid (one (D 5) = 1 ∨ one (D 5) = 0) := one_or _))
      all_goals (
        have hs1 := HS1.out HLK.out
        have hs2 : ¬ 9223372036854775807 < s1.size + 1 := by omega
        clear hq hx hj h6 HD3 C0 C1 C2 C3 C4 C5
        rcases HZO.out with hz | hz)
      all_goals (
        have HZJ : Hid _ := hz
        clear hz HZO
        have tokA : True := trivial
        go_wp2_with (first
          | (have _h := tokA; have _h := HB; refine wpList_load_row rfl 26 _ rfl w.heap.size rfl 26 cs (0, 0) _ HB.out.box Tryd.underlying26 rfl (by rw [HZ.out]; exact Tryd.info26) ?_; clear _h; clear _h tokA; have tokB : True := trivial)
          | (have _h := tokB; refine wpList_allocZ KA.out rfl rfl wr.heap.size (by rfl) ?_; clear _h tokB; have tokC : True := trivial; simp only [Act.put, List.setIfInBounds_toArray, List.set_cons_zero, List.set_cons_succ])
          | (have _h := tokC; refine wpList_store_row rfl 26 _ _ rfl wr.heap.size cs rfl rfl 26 ZB (by exact heap_alloc_new wr _) (by rw [HZ.out]; exact Tryd.info26) (by rw [HZ.out]; exact HZS.out) HO.out ?_; obtain ⟨hx9, hb2⟩ := box_new wr ZB cs 26; generalize World.setRow _ wr.heap.size cs = w6 at *; have HGL : Hid (w.heap.size < wr.heap.size) := (Array.getElem?_eq_some_iff.1 HB.out.box).1; have HB2 : Hid (BxW w 26 cs w6) := BxW.below HB.out hb2; clear HB; have HB : Hid (BxW w 26 cs w6) := HB2; clear HB2; generalize wr.heap.size = g at *; have HN : Hid (w6.heap[g]? = some (.cells cs 26 (0, 0))) := hx9; obtain ⟨cN, fN⟩ := box_see hx9 HJJ.out; clear hx9 hb2 _h tokC; have tokD : True := trivial)
          | (have _h := tokD; obtain ⟨hbw7, hn7⟩ := box_cell HB.out HN.out HGL.out HJK.out; refine wpList_load_row rfl 26 _ rfl g rfl 26 _ (0, 0) _ hn7 Tryd.underlying26 rfl (by rw [HJS.out]; exact Tryd.info26) ?_; generalize World.setCell w6 _ _ = w7 at *; clear HB HN cN fN; have HB : Hid (BxW w 26 cs w7) := hbw7; have HN : Hid _ := hn7; clear hbw7 hn7 _h tokD; have tokE : True := trivial)
          | (go_at_call 11; refine (HQ2.out _ _ _ HZJ.out HB.out.bel HLK.out).mono ?_; rintro e w8 ⟨⟨v8, rfl⟩, hb2⟩; have HN8 : Hid _ := box_keep' HN.out hb2; clear HN; have HN : Hid _ := HN8.out; have HB2 : Hid (BxW w 26 cs w8) := BxW.below HB.out hb2; clear HB; have HB : Hid (BxW w 26 cs w8) := HB2; clear HB2; clear hb2 HN8)
          | (have _h := tokE; refine wpList_load_row rfl 26 _ rfl g rfl 26 _ (0, 0) _ HN.out Tryd.underlying26 rfl (by rw [HJS.out]; exact Tryd.info26) ?_; clear _h tokE)
          | (go_at_call 12; refine (HR2.out _ _ _ HZJ.out HB.out.bel HLK.out).mono ?_; rintro e w9 ⟨⟨v9, rfl⟩, hb2⟩; have HB2 : Hid (BxW w 26 cs w9) := BxW.below HB.out hb2; clear HB; have HB : Hid (BxW w 26 cs w9) := HB2; clear HB2; clear hb2))
        have hn := HNX.out _ HZJ.out
        exact ⟨⟨_ + 1, _, _, by omega, rfl, hn_eq hn (by omega), rfl, by omega, HB.out⟩, by simp [iof]⟩)
theorem codecFields_walk (k0 i0 : Int) (b0 : Bd) (c0 : Bool) (ra0 : Option Addr) (rc0 : Nat) (w : World) (ht : Tab w) (w0 : ReqIn w k0 i0 b0 c0 ra0 rc0) : Calls Tryd.prog 6 #[.agg (rqc k0 i0 b0 c0 ra0 rc0)] w fun e w' => e = .returned (.bool true) ∧ Below w.heap.size w w' := by
  cases hE : reqE k0 i0 b0 with
  | none => exact fields_none _ _ _ _ _ _ w ht w0 hE
  | some L => exact fields_some _ _ _ _ _ _ L w ht w0 hE
end Go.Proofs.YtaooidckmepdeaaDoor
