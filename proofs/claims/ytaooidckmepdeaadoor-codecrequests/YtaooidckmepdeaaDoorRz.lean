/- CodecRequests. -/
import Derived.Test.YtaooidckmepdeaaDoorPm
namespace Go.Proofs.YtaooidckmepdeaaDoor
set_option linter.unusedSimpArgs false
set_option linter.unusedVariables false
open Go.RowKit
set_option maxHeartbeats 800000 in
set_option maxRecDepth 100000 in
theorem reqs_none (k0 i0 : Int) (b0 : Bd) (c0 : Bool) (ra0 : Option Addr) (rc0 : Nat) (w : World) (ht : Tab w) (w0 : ReqIn w k0 i0 b0 c0 ra0 rc0) (hE : reqE k0 i0 b0 = none) : Calls Tryd.prog 3 #[.agg (rqc k0 i0 b0 c0 ra0 rc0)] w fun e w' => e = .returned (.bool true) ∧ Below w.heap.size w w' := by
  have HA : Hid (∀ x, Tab x → Calls Tryd.prog 10 #[] x fun e w' => e = .returned (.bool true) ∧ Below x.heap.size x w') := fun x h => awake_any x h
  have HI : Hid (∀ x, Below w.heap.size w x → Calls Tryd.prog 9 #[.agg (rqc k0 i0 b0 c0 ra0 rc0)] x fun e w' => IsQ b0 e ∧ Below x.heap.size x w') := fun x hx => in2_any _ _ _ _ _ _ x (w0.below hx)
  have HQ : Hid (∀ x, Below w.heap.size w x → LookQ b0 → Calls Tryd.prog 11 #[.agg (rqc k0 i0 b0 c0 ra0 rc0)] x fun e w' => e = .returned (.tuple #[.slice none 0 0, .int .i64 1]) ∧ Below x.heap.size x w') := fun x hx hl => by
    have q := request_any k0 i0 b0 c0 ra0 rc0 x w0.hk w0.hi w0.hb ((w0.below hx).ok (ht.below hx) (by have := hl.n; omega))
    rw [hE] at q
    exact Calls.mono q (fun e w' h => EncP.none h)
  have HR : Hid (∀ x, Below w.heap.size w x → LookQ b0 → Calls Tryd.prog 12 #[.agg (rqc k0 i0 b0 c0 ra0 rc0)] x fun e w' => e = .returned (.tuple #[.slice none 0 0, .int .i64 1]) ∧ Below x.heap.size x w') := fun x hx hl => by
    have q := refReq_any k0 i0 b0 c0 ra0 rc0 x w0.hb (fun g => by have := hl.texts w0.hb g; omega) hl.n (w0.below hx).r (hl.recs w0.hb)
    rw [hE] at q
    exact Calls.mono q (fun e w' h => EncP.none h)
  have HT : Hid (Tab w) := ht
  have HB : Hid (BxW w 26 (rqc k0 i0 b0 c0 ra0 rc0) (w.alloc (.cells (rqc k0 i0 b0 c0 ra0 rc0) 26))) := BxW.new _ _ _
  have HZ : Hid ((rqc k0 i0 b0 c0 ra0 rc0).size = 17) := rfl
  have HBY : Hid (∀ x : World, Calls Tryd.prog 13 #[.slice none 0 0, .slice none 0 0] x fun e w' => e = .returned (.bool true) ∧ Below x.heap.size x w') := fun x => bytes_yes x none none 0 0 [] (Row.nil _ _) (Row.nil _ _) (by simp)
  clear ht w0 hE
  generalize (rqc k0 i0 b0 c0 ra0 rc0) = cs at *
  go_enter Tryd.func3, Tryd.ntmps3
  go_wp2_with (first
    | (have _h := HB; refine wpList_load_row rfl 26 _ rfl w.heap.size rfl 26 cs (0, 0) _ HB.out.box Tryd.underlying26 rfl (by rw [HZ.out]; exact Tryd.info26) ?_; clear _h)
    | (go_at_call 9; refine (HI.out _ HB.out.bel).mono ?_; rintro e w1 ⟨⟨sm, rfl, hsm⟩, hb1⟩; have HB1 : Hid (BxW w 26 cs w1) := BxW.below HB.out hb1; clear HB; have HB : Hid (BxW w 26 cs w1) := HB1; have HSM : Hid (sm = true → LookQ b0) := hsm; clear hsm hb1 HB1; cases sm)
    | (go_at_call 11; refine (HQ.out _ HB.out.bel (HSM.out (by trivial))).mono ?_; rintro e w2 ⟨rfl, hb2⟩; have HB2 : Hid (BxW w 26 cs w2) := BxW.below HB.out hb2; clear HB; have HB : Hid (BxW w 26 cs w2) := HB2; clear HB2; clear hb2)
    | (go_at_call 12; refine (HR.out _ HB.out.bel (HSM.out (by trivial))).mono ?_; rintro e w5 ⟨rfl, hb2⟩; have HB2 : Hid (BxW w 26 cs w5) := BxW.below HB.out hb2; clear HB; have HB : Hid (BxW w 26 cs w5) := HB2; clear HB2; clear hb2)
    | (go_at_call 13; refine (HBY.out _).mono ?_; rintro e w6 ⟨rfl, hb2⟩; have HB2 : Hid (BxW w 26 cs w6) := BxW.below HB.out hb2; clear HB; have HB : Hid (BxW w 26 cs w6) := HB2; clear HB2; clear hb2)
    | (go_at_call 10; refine (HA.out _ (HT.out.below HB.out.bel)).mono ?_; rintro e w3 ⟨rfl, hb3⟩; have HB3 : Hid (Below w.heap.size w w3) := HB.out.bel.trans (hb3.mono HB.out.bel.size); clear hb3))
  all_goals (go_ret; exact ⟨rfl, HB3.out⟩)
set_option maxHeartbeats 800000 in
set_option maxRecDepth 100000 in
theorem reqs_some (k0 i0 : Int) (b0 : Bd) (c0 : Bool) (ra0 : Option Addr) (rc0 : Nat) (L : List Nat) (w : World) (ht : Tab w) (w0 : ReqIn w k0 i0 b0 c0 ra0 rc0) (hE : reqE k0 i0 b0 = some L) : Calls Tryd.prog 3 #[.agg (rqc k0 i0 b0 c0 ra0 rc0)] w fun e w' => e = .returned (.bool true) ∧ Below w.heap.size w w' := by
  have HA : Hid (∀ x, Tab x → Calls Tryd.prog 10 #[] x fun e w' => e = .returned (.bool true) ∧ Below x.heap.size x w') := fun x h => awake_any x h
  have HI : Hid (∀ x, Below w.heap.size w x → Calls Tryd.prog 9 #[.agg (rqc k0 i0 b0 c0 ra0 rc0)] x fun e w' => IsQ b0 e ∧ Below x.heap.size x w') := fun x hx => in2_any _ _ _ _ _ _ x (w0.below hx)
  have HQ : Hid (∀ x, Below w.heap.size w x → LookQ b0 → Calls Tryd.prog 11 #[.agg (rqc k0 i0 b0 c0 ra0 rc0)] x fun e w' => (∃ a c, e = .returned (.tuple #[.slice a L.length c, .int .i64 0]) ∧ BOk w' a c L) ∧ Below x.heap.size x w') := fun x hx hl => by
    have q := request_any k0 i0 b0 c0 ra0 rc0 x w0.hk w0.hi w0.hb ((w0.below hx).ok (ht.below hx) (by have := hl.n; omega))
    rw [hE] at q
    refine Calls.mono q (fun e w' h => ?_)
    obtain ⟨a, c, e1, r, b⟩ := EncP.some2 h
    exact ⟨⟨a, c, e1, r⟩, b⟩
  have HR : Hid (∀ x, Below w.heap.size w x → LookQ b0 → Calls Tryd.prog 12 #[.agg (rqc k0 i0 b0 c0 ra0 rc0)] x fun e w' => (∃ a c, e = .returned (.tuple #[.slice a L.length c, .int .i64 0]) ∧ BOk w' a c L) ∧ Below x.heap.size x w') := fun x hx hl => by
    have q := refReq_any k0 i0 b0 c0 ra0 rc0 x w0.hb (fun g => by have := hl.texts w0.hb g; omega) hl.n (w0.below hx).r (hl.recs w0.hb)
    rw [hE] at q
    refine Calls.mono q (fun e w' h => ?_)
    obtain ⟨a, c, e1, r, b⟩ := EncP.some2 h
    exact ⟨⟨a, c, e1, r⟩, b⟩
  have HT : Hid (Tab w) := ht
  have HB : Hid (BxW w 26 (rqc k0 i0 b0 c0 ra0 rc0) (w.alloc (.cells (rqc k0 i0 b0 c0 ra0 rc0) 26))) := BxW.new _ _ _
  have HZ : Hid ((rqc k0 i0 b0 c0 ra0 rc0).size = 17) := rfl
  have HBY : Hid (∀ x p k' q j, BOk x p k' L → BOk x q j L → Calls Tryd.prog 13 #[.slice p L.length k', .slice q L.length j] x fun e w' => e = .returned (.bool true) ∧ Below x.heap.size x w') := fun x p k' q j h1 h2 => bytes_yes x p q k' j L h1.row h2.row h1.big
  clear ht w0 hE
  generalize (rqc k0 i0 b0 c0 ra0 rc0) = cs at *
  go_enter Tryd.func3, Tryd.ntmps3
  go_wp2_with (first
    | (have _h := HB; refine wpList_load_row rfl 26 _ rfl w.heap.size rfl 26 cs (0, 0) _ HB.out.box Tryd.underlying26 rfl (by rw [HZ.out]; exact Tryd.info26) ?_; clear _h)
    | (go_at_call 9; refine (HI.out _ HB.out.bel).mono ?_; rintro e w1 ⟨⟨sm, rfl, hsm⟩, hb1⟩; have HB1 : Hid (BxW w 26 cs w1) := BxW.below HB.out hb1; clear HB; have HB : Hid (BxW w 26 cs w1) := HB1; have HSM : Hid (sm = true → LookQ b0) := hsm; clear hsm hb1 HB1; cases sm)
    | (go_at_call 11; refine (HQ.out _ HB.out.bel (HSM.out (by trivial))).mono ?_; rintro e w2 ⟨⟨a2, c2, rfl, hk2⟩, hb2⟩; have HB2 : Hid (BxW w 26 cs w2) := BxW.below HB.out hb2; clear HB; have HB : Hid (BxW w 26 cs w2) := HB2; clear HB2; have HK : Hid (BOk w2 a2 c2 L) := hk2; clear hk2 hb2)
    | (go_at_call 12; refine (HR.out _ HB.out.bel (HSM.out (by trivial))).mono ?_; rintro e w5 ⟨⟨a5, c5, rfl, hk5⟩, hb2⟩; have HB2 : Hid (BxW w 26 cs w5) := BxW.below HB.out hb2; clear HB; have HB : Hid (BxW w 26 cs w5) := HB2; clear HB2; have HK2 : Hid (BOk w5 a2 c2 L) := ⟨HK.out.row.below hb2, HK.out.len, HK.out.cap, HK.out.nil, HK.out.big⟩; have HK5 : Hid (BOk w5 a5 c5 L) := hk5; clear hk5 hb2)
    | (go_at_call 13; refine (HBY.out _ _ _ _ _ HK2.out HK5.out).mono ?_; rintro e w6 ⟨rfl, hb2⟩; have HB2 : Hid (BxW w 26 cs w6) := BxW.below HB.out hb2; clear HB; have HB : Hid (BxW w 26 cs w6) := HB2; clear HB2; clear hb2)
    | (go_at_call 10; refine (HA.out _ (HT.out.below HB.out.bel)).mono ?_; rintro e w3 ⟨rfl, hb3⟩; have HB3 : Hid (Below w.heap.size w w3) := HB.out.bel.trans (hb3.mono HB.out.bel.size); clear hb3))
  all_goals (go_ret; exact ⟨rfl, HB3.out⟩)
theorem codecRequests_walk (k0 i0 : Int) (b0 : Bd) (c0 : Bool) (ra0 : Option Addr) (rc0 : Nat) (w : World) (ht : Tab w) (w0 : ReqIn w k0 i0 b0 c0 ra0 rc0) : Calls Tryd.prog 3 #[.agg (rqc k0 i0 b0 c0 ra0 rc0)] w fun e w' => e = .returned (.bool true) ∧ Below w.heap.size w w' := by
  cases hE : reqE k0 i0 b0 with
  | none => exact reqs_none _ _ _ _ _ _ w ht w0 hE
  | some L => exact reqs_some _ _ _ _ _ _ L w ht w0 hE
end Go.Proofs.YtaooidckmepdeaaDoor
