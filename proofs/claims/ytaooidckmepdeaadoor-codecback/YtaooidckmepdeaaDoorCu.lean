/- CodecCuts. -/
import Derived.Test.YtaooidckmepdeaaDoorGi
namespace Go.Proofs.YtaooidckmepdeaaDoor
set_option linter.unusedSimpArgs false
set_option linter.unusedVariables false
open Go.RowKit
theorem eNat_len {n : Nat} {v : Int} {L : List Nat} (h : eNat n v = some L) : L.length = n := by
  unfold eNat at h
  split at h
  · simp only [Option.some.injEq] at h; subst h; exact lay_len _ _
  · cases h
theorem reqE_len {k i : Int} {b : Bd} {L : List Nat} (h : reqE k i b = some L) : 5 ≤ L.length := by
  unfold reqE msgE at h
  cases hr : rowQ k with
  | none => rw [hr] at h; cases h
  | some r =>
    rw [hr] at h
    simp only at h
    split at h
    · cases h
    · obtain ⟨A, C, h1, h2, rfl⟩ := oa_some h
      obtain ⟨A1, A2, h3, h4, rfl⟩ := oa_some h1
      obtain ⟨A3, A4, h5, h6, rfl⟩ := oa_some h4
      have := eNat_len h3
      have := eNat_len h5
      simp only [List.length_append]
      omega
set_option maxHeartbeats 800000 in
set_option maxRecDepth 100000 in
theorem cuts_none (k0 i0 : Int) (b0 : Bd) (c0 : Bool) (ra0 : Option Addr) (rc0 : Nat) (a1 : Int) (w : World) (ht : Tab w) (w0 : ReqIn w k0 i0 b0 c0 ra0 rc0) (hE : reqE k0 i0 b0 = none) : Calls Tryd.prog 7 #[.agg (rqc k0 i0 b0 c0 ra0 rc0), .int .i64 a1] w fun e w' => e = .returned (.bool true) ∧ Below w.heap.size w w' := by
  have HA : Hid (∀ x, Tab x → Calls Tryd.prog 10 #[] x fun e w' => e = .returned (.bool true) ∧ Below x.heap.size x w') := fun x h => awake_any x h
  have HI : Hid (∀ x, Below w.heap.size w x → Calls Tryd.prog 9 #[.agg (rqc k0 i0 b0 c0 ra0 rc0)] x fun e w' => IsB (b0 11).rs.length e ∧ Below x.heap.size x w') := fun x hx => in_any _ _ _ _ _ _ x (w0.below hx)
  have HQ : Hid (∀ x, Below w.heap.size w x → (b0 11).rs.length ≤ 300 → Calls Tryd.prog 11 #[.agg (rqc k0 i0 b0 c0 ra0 rc0)] x fun e w' => e = .returned (.tuple #[.slice none 0 0, .int .i64 1]) ∧ Below x.heap.size x w') := fun x hx hl => by
    have q := request_any k0 i0 b0 c0 ra0 rc0 x w0.hk w0.hi w0.hb ((w0.below hx).ok (ht.below hx) (by omega))
    rw [hE] at q
    exact Calls.mono q (fun e w' h => EncP.none h)
  have HT : Hid (Tab w) := ht
  have HB : Hid (BxW w 26 (rqc k0 i0 b0 c0 ra0 rc0) (w.alloc (.cells (rqc k0 i0 b0 c0 ra0 rc0) 26))) := BxW.new _ _ _
  have HZ : Hid ((rqc k0 i0 b0 c0 ra0 rc0).size = 17) := rfl
  clear ht w0 hE
  generalize (rqc k0 i0 b0 c0 ra0 rc0) = cs at *
  generalize (b0 11).rs.length = n at *
  go_enter Tryd.func7, Tryd.ntmps7
  go_wp2_with (first
    | (have _h := HB; refine wpList_load_row rfl 26 _ rfl w.heap.size rfl 26 cs (0, 0) _ HB.out.box Tryd.underlying26 rfl (by rw [HZ.out]; exact Tryd.info26) ?_; clear _h)
    | (go_at_call 9; refine (HI.out _ HB.out.bel).mono ?_; rintro e w1 ⟨⟨sm, rfl, hsm⟩, hb1⟩; have HB1 : Hid (BxW w 26 cs w1) := BxW.below HB.out hb1; clear HB; have HB : Hid (BxW w 26 cs w1) := HB1; have HSM : Hid (sm = true → n ≤ 300) := hsm; clear hsm hb1 HB1; cases sm)
    | (go_at_call 11; refine (HQ.out _ HB.out.bel (HSM.out (by trivial))).mono ?_; rintro e w2 ⟨rfl, hb2⟩; have HB2 : Hid (BxW w 26 cs w2) := BxW.below HB.out hb2; clear HB hb2; have HB : Hid (BxW w 26 cs w2) := HB2; clear HB2)
    | (go_at_call 10; refine (HA.out _ (HT.out.below HB.out.bel)).mono ?_; rintro e w3 ⟨rfl, hb3⟩; have HB3 : Hid (Below w.heap.size w w3) := HB.out.bel.trans (hb3.mono HB.out.bel.size); clear hb3))
  all_goals (go_ret; exact ⟨rfl, HB3.out⟩)
set_option maxHeartbeats 800000 in
set_option maxRecDepth 100000 in
theorem cuts_some (k0 i0 : Int) (b0 : Bd) (c0 : Bool) (ra0 : Option Addr) (rc0 : Nat) (a1 : Int) (h1 : In64 a1) (L : List Nat) (w : World) (ht : Tab w) (w0 : ReqIn w k0 i0 b0 c0 ra0 rc0) (hE : reqE k0 i0 b0 = some L) : Calls Tryd.prog 7 #[.agg (rqc k0 i0 b0 c0 ra0 rc0), .int .i64 a1] w fun e w' => e = .returned (.bool true) ∧ Below w.heap.size w w' := by
  have HA : Hid (∀ x, Tab x → Calls Tryd.prog 10 #[] x fun e w' => e = .returned (.bool true) ∧ Below x.heap.size x w') := fun x h => awake_any x h
  have HI : Hid (∀ x, Below w.heap.size w x → Calls Tryd.prog 9 #[.agg (rqc k0 i0 b0 c0 ra0 rc0)] x fun e w' => IsB (b0 11).rs.length e ∧ Below x.heap.size x w') := fun x hx => in_any _ _ _ _ _ _ x (w0.below hx)
  have HQ : Hid (∀ x, Below w.heap.size w x → (b0 11).rs.length ≤ 300 → Calls Tryd.prog 11 #[.agg (rqc k0 i0 b0 c0 ra0 rc0)] x fun e w' => (∃ a c, e = .returned (.tuple #[.slice a L.length c, .int .i64 0]) ∧ BOk w' a c L) ∧ Below x.heap.size x w') := fun x hx hl => by
    have q := request_any k0 i0 b0 c0 ra0 rc0 x w0.hk w0.hi w0.hb ((w0.below hx).ok (ht.below hx) (by omega))
    rw [hE] at q
    refine Calls.mono q (fun e w' h => ?_)
    obtain ⟨a, c, e1, r, b⟩ := EncP.some2 h
    exact ⟨⟨a, c, e1, r⟩, b⟩
  have HT : Hid (Tab w) := ht
  have HB : Hid (BxW w 26 (rqc k0 i0 b0 c0 ra0 rc0) (w.alloc (.cells (rqc k0 i0 b0 c0 ra0 rc0) 26))) := BxW.new _ _ _
  have HZ : Hid ((rqc k0 i0 b0 c0 ra0 rc0).size = 17) := rfl
  have hL5 := reqE_len hE
  obtain ⟨r, hr⟩ : ∃ r : Nat, (a1 % (L.length : Int)).toNat = r := ⟨_, rfl⟩
  have hrL : r < L.length := by
    have e2 := Int.emod_lt_of_pos a1 (show 0 < (L.length : Int) by omega)
    omega
  have HRD : Hid (∀ x, L.length ≤ 1000000000000 → Calls Tryd.prog 20 #[.int .i64 a1, .int .i64 (L.length : Int)] x fun e w' => e = .returned (.int .i64 (r : Int)) ∧ w' = x) := fun x hx => by
    have q := round_big a1 L.length x h1.1 h1.2 (by omega) hx
    rw [hr] at q
    exact q
  obtain ⟨CZ, HCZ⟩ : ∃ CZ : Array Value, Hid (z26 = CZ) := ⟨_, rfl⟩
  have HZ1 : Hid (CZ.size = 17) := by rw [← HCZ.out]; rfl
  have HZ2 : Hid (CZ.all (·.oneCell') = true) := by show _ = _; rw [← HCZ.out]; kernel_rfl
  have HP : Hid (∀ x a c, Tab x → BOk x a c L → Calls Tryd.prog 15 #[.slice a r c] x fun e w' => e = .returned (.tuple #[.agg CZ, .int .i64 13]) ∧ Below x.heap.size x w') := fun x a c hx hk => by
    have e1 : (L.take r).length = r := by rw [List.length_take]; omega
    have q := parseQ_any x a c (L.take r) hx (row_take r hk.row) (by have := hk.len; omega) hk.cap hk.nil (by have := hk.big; omega)
    rw [reqP_cut hk.row.bd w0.hb.v hE r hrL, e1] at q
    refine Calls.mono q ?_
    rintro e w' ⟨hb, h1, _⟩
    rw [← HCZ.out]
    exact ⟨h1 rfl, hb⟩
  have HL5 : Hid (5 ≤ L.length ∧ r < L.length) := ⟨hL5, hrL⟩
  have HLE : Hid (∀ x a c, BOk x a c L → L.length ≤ c) := fun x a c h => h.len
  have HBIG : Hid (∀ x a c, BOk x a c L → L.length ≤ 1000000000000) := fun x a c h => h.big
  clear ht w0 hE hr hrL
  have hn0 : ¬ ((L.length : Int) = 0) := by omega
  have hn1 : ((L.length : Int) == 0) = false := beq_eq_false_iff_ne.2 hn0
  generalize L.length = nL at *
  generalize (rqc k0 i0 b0 c0 ra0 rc0) = cs at *
  generalize (b0 11).rs.length = n at *
  go_enter Tryd.func7, Tryd.ntmps7
  go_wp2_with (first
    | (have _h := HB; refine wpList_load_row rfl 26 _ rfl w.heap.size rfl 26 cs (0, 0) _ HB.out.box Tryd.underlying26 rfl (by rw [HZ.out]; exact Tryd.info26) ?_; clear _h)
    | (go_at_call 9; refine (HI.out _ HB.out.bel).mono ?_; rintro e w1 ⟨⟨sm, rfl, hsm⟩, hb1⟩; have HB1 : Hid (BxW w 26 cs w1) := BxW.below HB.out hb1; clear HB; have HB : Hid (BxW w 26 cs w1) := HB1; have HSM : Hid (sm = true → n ≤ 300) := hsm; clear hsm hb1 HB1; cases sm)
    | (go_at_call 11; refine (HQ.out _ HB.out.bel (HSM.out (by trivial))).mono ?_; rintro e w2 ⟨⟨a2, c2, rfl, hk2⟩, hb2⟩; have HB2 : Hid (BxW w 26 cs w2) := BxW.below HB.out hb2; clear HB hb2; have HB : Hid (BxW w 26 cs w2) := HB2; have HK : Hid (BOk w2 a2 c2 L) := hk2; have HTO : Hid (∀ y, (Instr.slice 29 (.slice a2 nL c2) none (some (.int .i64 (r : Int))) none).run Tryd.prog y = .ok (.slice a2 r c2) y) := (fun y => run_slice_to y a2 nL c2 r (by have := HL5.out.2; omega) (HLE.out _ _ _ hk2)); have kt := HTO.out; clear HB2 hk2)
    | (go_at_call 20; refine (HRD.out _ (HBIG.out _ _ _ HK.out)).mono ?_; rintro e w5 ⟨rfl, rfl⟩)
    | (go_at_call 15; refine (HP.out _ _ _ (HT.out.below HB.out.bel) HK.out).mono ?_; rintro e w4 ⟨rfl, hb4⟩; have HB4 : Hid (BxW w 26 cs w4) := BxW.below HB.out hb4; clear HB hb4 kt; have HB : Hid (BxW w 26 cs w4) := HB4; have tok2 : True := trivial; clear HB4)
    | (have _h := tok2; refine wpList_store_row rfl 26 _ _ rfl w4.heap.size CZ rfl rfl 26 #[.int .i64 0, .int .i64 0, .string ⟨#[]⟩, .int .i64 0, .int .i64 0, .int .i64 0, .int .i64 0, .int .i64 0, .bool false, .int .i64 0, .int .i64 0, .int .i64 0, .slice none 0 0, .int .i64 0, .int .i64 0, .int .i64 0, .string ⟨#[]⟩] (heap_alloc_new w4 _) (by rw [HZ1.out]; exact Tryd.info26) (by rw [HZ1.out]; rfl) HZ2.out ?_; obtain ⟨hb9, hl9⟩ := box_new w4 #[.int .i64 0, .int .i64 0, .string ⟨#[]⟩, .int .i64 0, .int .i64 0, .int .i64 0, .int .i64 0, .int .i64 0, .bool false, .int .i64 0, .int .i64 0, .int .i64 0, .slice none 0 0, .int .i64 0, .int .i64 0, .int .i64 0, .string ⟨#[]⟩] CZ 26; generalize World.setRow _ w4.heap.size CZ = w6 at *; have HB6 : Hid (BxW w 26 cs w6) := BxW.below HB.out hl9; clear HB; have HB : Hid (BxW w 26 cs w6) := HB6; clear hb9 hl9 _h tok2 HB6)
    | (go_at_call 10; refine (HA.out _ (HT.out.below HB.out.bel)).mono ?_; rintro e w3 ⟨rfl, hb3⟩; have HB3 : Hid (Below w.heap.size w w3) := HB.out.bel.trans (hb3.mono HB.out.bel.size); clear hb3))
  all_goals (go_ret; exact ⟨rfl, HB3.out⟩)
theorem codecCuts_walk (k0 i0 : Int) (b0 : Bd) (c0 : Bool) (ra0 : Option Addr) (rc0 : Nat) (a1 : Int) (w : World) (ht : Tab w) (w0 : ReqIn w k0 i0 b0 c0 ra0 rc0) (w1 : (Lit.int .i64 a1).wf = true) : Calls Tryd.prog 7 #[.agg (rqc k0 i0 b0 c0 ra0 rc0), .int .i64 a1] w fun e w' => e = .returned (.bool true) ∧ Below w.heap.size w w' := by
  cases hE : reqE k0 i0 b0 with
  | none => exact cuts_none _ _ _ _ _ _ a1 w ht w0 hE
  | some L => exact cuts_some _ _ _ _ _ _ a1 (bd64 w1) L w ht w0 hE
end Go.Proofs.YtaooidckmepdeaaDoor
