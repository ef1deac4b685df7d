/- IDs, the walk. -/
import Derived.Test.YtaooidckmepdeaaDoorIa
import Derived.Test.YtaooidckmepdeaaDoorGi
namespace Go.Proofs.YtaooidckmepdeaaDoor
set_option linter.unusedSimpArgs false
set_option linter.unusedVariables false
open Go.RowKit
theorem bdz_vb : VB bdz := by
  refine ⟨fun f hf => ?_, fun f hf => rfl⟩
  rw [show bdz f = fz from rfl]
  rcases kd_cases f with q | q | q | q | q | q | q <;> rw [q] <;> simp [VK, fz, vn, vt, vr', vm, vc, vb, In64]
theorem bdz_ok (x : World) (hx : Tab x) : BdOk x bdz (ptR none 0) := bdok_plain x hx rfl rfl rfl rfl (fun f => by rw [show bdz f = fz from rfl]; decide) (by rw [show bdz 7 = fz from rfl]; unfold In64; decide)
theorem ids_q (id : Int) (hi : In64 id) (x : World) (hx : Tab x) : Calls Tryd.prog 11 #[.agg #[.int .i64 3, .int .i64 id, .string ⟨#[]⟩, .int .i64 0, .int .i64 0, .int .i64 0, .int .i64 0, .int .i64 0, .bool false, .int .i64 0, .int .i64 0, .int .i64 0, .slice none 0 0, .int .i64 0, .int .i64 0, .int .i64 0, .string ⟨#[]⟩]] x (EncP (reqE 3 id bdz) x) :=
  request_any 3 id bdz false none 0 x (by unfold In64; decide) hi ⟨bdz_vb, rfl, rfl, rfl, rfl, rfl, rfl⟩ (bdz_ok x hx)
theorem ids_s (kind id code : Int) (hk : In64 kind) (hi : In64 id) (hd : In64 code) (x : World) (hx : Tab x) : Calls Tryd.prog 17 #[.agg #[.int .i64 kind, .int .i64 id, .int .i64 code, .int .i64 0, .int .i64 0, .int .i64 0, .slice none 0 0, .slice none 0 0, .slice none 0 0]] x (EncP (resE kind id code bdz) x) :=
  response_any kind id code bdz (ptR none 0) x hk hi hd ⟨bdz_vb, fun f _ _ => rfl, rfl, rfl⟩ (bdz_ok x hx)
set_option maxHeartbeats 800000 in
set_option maxRecDepth 100000 in
theorem ids_a1 (id kind code : Int) (w : World) (ht : Tab w) (hi : In64 id) (hk : In64 kind) (hd : In64 code) (i0 : id < 0) : Calls Tryd.prog 8 #[.int .i64 id, .int .i64 kind, .int .i64 code] w fun e w' => e = .returned (.bool true) ∧ Below w.heap.size w w' := by
  have HA : Hid (∀ x, Tab x → Calls Tryd.prog 10 #[] x fun e w' => e = .returned (.bool true) ∧ Below x.heap.size x w') := fun x h => awake_any x h
  have HQ : Hid (∀ x, Tab x → Calls Tryd.prog 11 #[.agg #[.int .i64 3, .int .i64 id, .string ⟨#[]⟩, .int .i64 0, .int .i64 0, .int .i64 0, .int .i64 0, .int .i64 0, .bool false, .int .i64 0, .int .i64 0, .int .i64 0, .slice none 0 0, .int .i64 0, .int .i64 0, .int .i64 0, .string ⟨#[]⟩]] x fun e w' => e = .returned (.tuple #[.slice none 0 0, .int .i64 1]) ∧ Below x.heap.size x w') := fun x hx => by
    have hL : reqE 3 id bdz = none := Option.isNone_iff_eq_none.1 (by rw [← Option.not_isSome, reqE_z]; simp <;> omega)
    have q := ids_q id hi x hx
    rw [hL] at q
    exact Calls.mono q (fun e w' h => EncP.none h)
  have HS : Hid (∀ x, Tab x → Calls Tryd.prog 17 #[.agg #[.int .i64 kind, .int .i64 id, .int .i64 code, .int .i64 0, .int .i64 0, .int .i64 0, .slice none 0 0, .slice none 0 0, .slice none 0 0]] x fun e w' => e = .returned (.tuple #[.slice none 0 0, .int .i64 1]) ∧ Below x.heap.size x w') := fun x hx => by
    have hL : resE kind id code bdz = none := Option.isNone_iff_eq_none.1 (by rw [← Option.not_isSome, resE_z]; simp <;> omega)
    have q := ids_s kind id code hk hi hd x hx
    rw [hL] at q
    exact Calls.mono q (fun e w' h => EncP.none h)
  have HT : Hid (Tab w) := ht
  clear ht hi hk hd
  go_enter Tryd.func8, Tryd.ntmps8
  go_wp2_with (first
    | (go_at_call 11; refine (HQ.out _ HT.out).mono ?_; rintro e w1 ⟨rfl, hb1⟩; have HB1 : Hid (Below w.heap.size w w1) := hb1; have HT1 : Hid (Tab w1) := HT.out.below hb1; clear hb1)
    | (go_at_call 17; refine (HS.out _ HT1.out).mono ?_; rintro e w2 ⟨rfl, hb2⟩; have HB2 : Hid (Below w.heap.size w w2) := HB1.out.trans (hb2.mono HB1.out.size); have HT2 : Hid (Tab w2) := HT1.out.below hb2; clear hb2)
    | (go_at_call 10; refine (HA.out _ HT2.out).mono ?_; rintro e w3 ⟨rfl, hb3⟩; have HB3 : Hid (Below w.heap.size w w3) := HB2.out.trans (hb3.mono HB2.out.size); clear hb3))
  go_ret
  exact ⟨rfl, HB3.out⟩
set_option maxHeartbeats 800000 in
set_option maxRecDepth 100000 in
theorem ids_a2 (id kind code : Int) (w : World) (ht : Tab w) (hi : In64 id) (hk : In64 kind) (hd : In64 code) (i0 : 0 ≤ id) (i1 : 4294967295 < id) : Calls Tryd.prog 8 #[.int .i64 id, .int .i64 kind, .int .i64 code] w fun e w' => e = .returned (.bool true) ∧ Below w.heap.size w w' := by
  have HA : Hid (∀ x, Tab x → Calls Tryd.prog 10 #[] x fun e w' => e = .returned (.bool true) ∧ Below x.heap.size x w') := fun x h => awake_any x h
  have HQ : Hid (∀ x, Tab x → Calls Tryd.prog 11 #[.agg #[.int .i64 3, .int .i64 id, .string ⟨#[]⟩, .int .i64 0, .int .i64 0, .int .i64 0, .int .i64 0, .int .i64 0, .bool false, .int .i64 0, .int .i64 0, .int .i64 0, .slice none 0 0, .int .i64 0, .int .i64 0, .int .i64 0, .string ⟨#[]⟩]] x fun e w' => e = .returned (.tuple #[.slice none 0 0, .int .i64 1]) ∧ Below x.heap.size x w') := fun x hx => by
    have hL : reqE 3 id bdz = none := Option.isNone_iff_eq_none.1 (by rw [← Option.not_isSome, reqE_z]; simp <;> omega)
    have q := ids_q id hi x hx
    rw [hL] at q
    exact Calls.mono q (fun e w' h => EncP.none h)
  have HS : Hid (∀ x, Tab x → Calls Tryd.prog 17 #[.agg #[.int .i64 kind, .int .i64 id, .int .i64 code, .int .i64 0, .int .i64 0, .int .i64 0, .slice none 0 0, .slice none 0 0, .slice none 0 0]] x fun e w' => e = .returned (.tuple #[.slice none 0 0, .int .i64 1]) ∧ Below x.heap.size x w') := fun x hx => by
    have hL : resE kind id code bdz = none := Option.isNone_iff_eq_none.1 (by rw [← Option.not_isSome, resE_z]; simp <;> omega)
    have q := ids_s kind id code hk hi hd x hx
    rw [hL] at q
    exact Calls.mono q (fun e w' h => EncP.none h)
  have HT : Hid (Tab w) := ht
  clear ht hi hk hd
  go_enter Tryd.func8, Tryd.ntmps8
  go_wp2_with (first
    | (go_at_call 11; refine (HQ.out _ HT.out).mono ?_; rintro e w1 ⟨rfl, hb1⟩; have HB1 : Hid (Below w.heap.size w w1) := hb1; have HT1 : Hid (Tab w1) := HT.out.below hb1; clear hb1)
    | (go_at_call 17; refine (HS.out _ HT1.out).mono ?_; rintro e w2 ⟨rfl, hb2⟩; have HB2 : Hid (Below w.heap.size w w2) := HB1.out.trans (hb2.mono HB1.out.size); have HT2 : Hid (Tab w2) := HT1.out.below hb2; clear hb2)
    | (go_at_call 10; refine (HA.out _ HT2.out).mono ?_; rintro e w3 ⟨rfl, hb3⟩; have HB3 : Hid (Below w.heap.size w w3) := HB2.out.trans (hb3.mono HB2.out.size); clear hb3))
  go_ret
  exact ⟨rfl, HB3.out⟩
set_option maxHeartbeats 800000 in
set_option maxRecDepth 100000 in
theorem ids_b1 (id kind code : Int) (w : World) (ht : Tab w) (hi : In64 id) (hk : In64 kind) (hd : In64 code) (i0 : 0 ≤ id) (i1 : id ≤ 4294967295) (k0 : kind < 0) : Calls Tryd.prog 8 #[.int .i64 id, .int .i64 kind, .int .i64 code] w fun e w' => e = .returned (.bool true) ∧ Below w.heap.size w w' := by
  have HA : Hid (∀ x, Tab x → Calls Tryd.prog 10 #[] x fun e w' => e = .returned (.bool true) ∧ Below x.heap.size x w') := fun x h => awake_any x h
  have HQ : Hid (∀ x, Tab x → Calls Tryd.prog 11 #[.agg #[.int .i64 3, .int .i64 id, .string ⟨#[]⟩, .int .i64 0, .int .i64 0, .int .i64 0, .int .i64 0, .int .i64 0, .bool false, .int .i64 0, .int .i64 0, .int .i64 0, .slice none 0 0, .int .i64 0, .int .i64 0, .int .i64 0, .string ⟨#[]⟩]] x fun e w' => (∃ a c, e = .returned (.tuple #[.slice a 5 c, .int .i64 0])) ∧ Below x.heap.size x w') := fun x hx => by
    obtain ⟨L, hL⟩ := Option.isSome_iff_exists.1 (show (reqE 3 id bdz).isSome = true by rw [reqE_z]; simp <;> omega)
    have q := ids_q id hi x hx
    rw [hL] at q
    refine Calls.mono q (fun e w' h => ?_)
    obtain ⟨a, c, e1, _, _, _, b⟩ := EncP.some h
    rw [reqE_zl hL] at e1
    exact ⟨⟨a, c, e1⟩, b⟩
  have HS : Hid (∀ x, Tab x → Calls Tryd.prog 17 #[.agg #[.int .i64 kind, .int .i64 id, .int .i64 code, .int .i64 0, .int .i64 0, .int .i64 0, .slice none 0 0, .slice none 0 0, .slice none 0 0]] x fun e w' => e = .returned (.tuple #[.slice none 0 0, .int .i64 1]) ∧ Below x.heap.size x w') := fun x hx => by
    have hL : resE kind id code bdz = none := Option.isNone_iff_eq_none.1 (by rw [← Option.not_isSome, resE_z]; simp <;> omega)
    have q := ids_s kind id code hk hi hd x hx
    rw [hL] at q
    exact Calls.mono q (fun e w' h => EncP.none h)
  have HT : Hid (Tab w) := ht
  clear ht hi hk hd
  go_enter Tryd.func8, Tryd.ntmps8
  go_wp2_with (first
    | (go_at_call 11; refine (HQ.out _ HT.out).mono ?_; rintro e w1 ⟨⟨a1, c1, rfl⟩, hb1⟩; have HB1 : Hid (Below w.heap.size w w1) := hb1; have HT1 : Hid (Tab w1) := HT.out.below hb1; clear hb1)
    | (go_at_call 17; refine (HS.out _ HT1.out).mono ?_; rintro e w2 ⟨rfl, hb2⟩; have HB2 : Hid (Below w.heap.size w w2) := HB1.out.trans (hb2.mono HB1.out.size); have HT2 : Hid (Tab w2) := HT1.out.below hb2; clear hb2)
    | (go_at_call 10; refine (HA.out _ HT2.out).mono ?_; rintro e w3 ⟨rfl, hb3⟩; have HB3 : Hid (Below w.heap.size w w3) := HB2.out.trans (hb3.mono HB2.out.size); clear hb3))
  go_ret
  exact ⟨rfl, HB3.out⟩
set_option maxHeartbeats 800000 in
set_option maxRecDepth 100000 in
theorem ids_b2 (id kind code : Int) (w : World) (ht : Tab w) (hi : In64 id) (hk : In64 kind) (hd : In64 code) (i0 : 0 ≤ id) (i1 : id ≤ 4294967295) (k0 : 0 ≤ kind) (k1 : 8 < kind) : Calls Tryd.prog 8 #[.int .i64 id, .int .i64 kind, .int .i64 code] w fun e w' => e = .returned (.bool true) ∧ Below w.heap.size w w' := by
  have HA : Hid (∀ x, Tab x → Calls Tryd.prog 10 #[] x fun e w' => e = .returned (.bool true) ∧ Below x.heap.size x w') := fun x h => awake_any x h
  have HQ : Hid (∀ x, Tab x → Calls Tryd.prog 11 #[.agg #[.int .i64 3, .int .i64 id, .string ⟨#[]⟩, .int .i64 0, .int .i64 0, .int .i64 0, .int .i64 0, .int .i64 0, .bool false, .int .i64 0, .int .i64 0, .int .i64 0, .slice none 0 0, .int .i64 0, .int .i64 0, .int .i64 0, .string ⟨#[]⟩]] x fun e w' => (∃ a c, e = .returned (.tuple #[.slice a 5 c, .int .i64 0])) ∧ Below x.heap.size x w') := fun x hx => by
    obtain ⟨L, hL⟩ := Option.isSome_iff_exists.1 (show (reqE 3 id bdz).isSome = true by rw [reqE_z]; simp <;> omega)
    have q := ids_q id hi x hx
    rw [hL] at q
    refine Calls.mono q (fun e w' h => ?_)
    obtain ⟨a, c, e1, _, _, _, b⟩ := EncP.some h
    rw [reqE_zl hL] at e1
    exact ⟨⟨a, c, e1⟩, b⟩
  have HS : Hid (∀ x, Tab x → Calls Tryd.prog 17 #[.agg #[.int .i64 kind, .int .i64 id, .int .i64 code, .int .i64 0, .int .i64 0, .int .i64 0, .slice none 0 0, .slice none 0 0, .slice none 0 0]] x fun e w' => e = .returned (.tuple #[.slice none 0 0, .int .i64 1]) ∧ Below x.heap.size x w') := fun x hx => by
    have hL : resE kind id code bdz = none := Option.isNone_iff_eq_none.1 (by rw [← Option.not_isSome, resE_z]; simp <;> omega)
    have q := ids_s kind id code hk hi hd x hx
    rw [hL] at q
    exact Calls.mono q (fun e w' h => EncP.none h)
  have HT : Hid (Tab w) := ht
  clear ht hi hk hd
  go_enter Tryd.func8, Tryd.ntmps8
  go_wp2_with (first
    | (go_at_call 11; refine (HQ.out _ HT.out).mono ?_; rintro e w1 ⟨⟨a1, c1, rfl⟩, hb1⟩; have HB1 : Hid (Below w.heap.size w w1) := hb1; have HT1 : Hid (Tab w1) := HT.out.below hb1; clear hb1)
    | (go_at_call 17; refine (HS.out _ HT1.out).mono ?_; rintro e w2 ⟨rfl, hb2⟩; have HB2 : Hid (Below w.heap.size w w2) := HB1.out.trans (hb2.mono HB1.out.size); have HT2 : Hid (Tab w2) := HT1.out.below hb2; clear hb2)
    | (go_at_call 10; refine (HA.out _ HT2.out).mono ?_; rintro e w3 ⟨rfl, hb3⟩; have HB3 : Hid (Below w.heap.size w w3) := HB2.out.trans (hb3.mono HB2.out.size); clear hb3))
  go_ret
  exact ⟨rfl, HB3.out⟩
set_option maxHeartbeats 800000 in
set_option maxRecDepth 100000 in
theorem ids_b3 (id kind code : Int) (w : World) (ht : Tab w) (hi : In64 id) (hk : In64 kind) (hd : In64 code) (i0 : 0 ≤ id) (i1 : id ≤ 4294967295) (k0 : 0 ≤ kind) (k1 : kind ≤ 8) (d0 : code < 0) : Calls Tryd.prog 8 #[.int .i64 id, .int .i64 kind, .int .i64 code] w fun e w' => e = .returned (.bool true) ∧ Below w.heap.size w w' := by
  have HA : Hid (∀ x, Tab x → Calls Tryd.prog 10 #[] x fun e w' => e = .returned (.bool true) ∧ Below x.heap.size x w') := fun x h => awake_any x h
  have HQ : Hid (∀ x, Tab x → Calls Tryd.prog 11 #[.agg #[.int .i64 3, .int .i64 id, .string ⟨#[]⟩, .int .i64 0, .int .i64 0, .int .i64 0, .int .i64 0, .int .i64 0, .bool false, .int .i64 0, .int .i64 0, .int .i64 0, .slice none 0 0, .int .i64 0, .int .i64 0, .int .i64 0, .string ⟨#[]⟩]] x fun e w' => (∃ a c, e = .returned (.tuple #[.slice a 5 c, .int .i64 0])) ∧ Below x.heap.size x w') := fun x hx => by
    obtain ⟨L, hL⟩ := Option.isSome_iff_exists.1 (show (reqE 3 id bdz).isSome = true by rw [reqE_z]; simp <;> omega)
    have q := ids_q id hi x hx
    rw [hL] at q
    refine Calls.mono q (fun e w' h => ?_)
    obtain ⟨a, c, e1, _, _, _, b⟩ := EncP.some h
    rw [reqE_zl hL] at e1
    exact ⟨⟨a, c, e1⟩, b⟩
  have HS : Hid (∀ x, Tab x → Calls Tryd.prog 17 #[.agg #[.int .i64 kind, .int .i64 id, .int .i64 code, .int .i64 0, .int .i64 0, .int .i64 0, .slice none 0 0, .slice none 0 0, .slice none 0 0]] x fun e w' => e = .returned (.tuple #[.slice none 0 0, .int .i64 1]) ∧ Below x.heap.size x w') := fun x hx => by
    have hL : resE kind id code bdz = none := Option.isNone_iff_eq_none.1 (by rw [← Option.not_isSome, resE_z]; simp <;> omega)
    have q := ids_s kind id code hk hi hd x hx
    rw [hL] at q
    exact Calls.mono q (fun e w' h => EncP.none h)
  have HT : Hid (Tab w) := ht
  clear ht hi hk hd
  go_enter Tryd.func8, Tryd.ntmps8
  go_wp2_with (first
    | (go_at_call 11; refine (HQ.out _ HT.out).mono ?_; rintro e w1 ⟨⟨a1, c1, rfl⟩, hb1⟩; have HB1 : Hid (Below w.heap.size w w1) := hb1; have HT1 : Hid (Tab w1) := HT.out.below hb1; clear hb1)
    | (go_at_call 17; refine (HS.out _ HT1.out).mono ?_; rintro e w2 ⟨rfl, hb2⟩; have HB2 : Hid (Below w.heap.size w w2) := HB1.out.trans (hb2.mono HB1.out.size); have HT2 : Hid (Tab w2) := HT1.out.below hb2; clear hb2)
    | (go_at_call 10; refine (HA.out _ HT2.out).mono ?_; rintro e w3 ⟨rfl, hb3⟩; have HB3 : Hid (Below w.heap.size w w3) := HB2.out.trans (hb3.mono HB2.out.size); clear hb3))
  go_ret
  exact ⟨rfl, HB3.out⟩
set_option maxHeartbeats 800000 in
set_option maxRecDepth 100000 in
theorem ids_b4 (id kind code : Int) (w : World) (ht : Tab w) (hi : In64 id) (hk : In64 kind) (hd : In64 code) (i0 : 0 ≤ id) (i1 : id ≤ 4294967295) (k0 : 0 ≤ kind) (k1 : kind ≤ 8) (d0 : 0 ≤ code) (d1 : 255 < code) : Calls Tryd.prog 8 #[.int .i64 id, .int .i64 kind, .int .i64 code] w fun e w' => e = .returned (.bool true) ∧ Below w.heap.size w w' := by
  have HA : Hid (∀ x, Tab x → Calls Tryd.prog 10 #[] x fun e w' => e = .returned (.bool true) ∧ Below x.heap.size x w') := fun x h => awake_any x h
  have HQ : Hid (∀ x, Tab x → Calls Tryd.prog 11 #[.agg #[.int .i64 3, .int .i64 id, .string ⟨#[]⟩, .int .i64 0, .int .i64 0, .int .i64 0, .int .i64 0, .int .i64 0, .bool false, .int .i64 0, .int .i64 0, .int .i64 0, .slice none 0 0, .int .i64 0, .int .i64 0, .int .i64 0, .string ⟨#[]⟩]] x fun e w' => (∃ a c, e = .returned (.tuple #[.slice a 5 c, .int .i64 0])) ∧ Below x.heap.size x w') := fun x hx => by
    obtain ⟨L, hL⟩ := Option.isSome_iff_exists.1 (show (reqE 3 id bdz).isSome = true by rw [reqE_z]; simp <;> omega)
    have q := ids_q id hi x hx
    rw [hL] at q
    refine Calls.mono q (fun e w' h => ?_)
    obtain ⟨a, c, e1, _, _, _, b⟩ := EncP.some h
    rw [reqE_zl hL] at e1
    exact ⟨⟨a, c, e1⟩, b⟩
  have HS : Hid (∀ x, Tab x → Calls Tryd.prog 17 #[.agg #[.int .i64 kind, .int .i64 id, .int .i64 code, .int .i64 0, .int .i64 0, .int .i64 0, .slice none 0 0, .slice none 0 0, .slice none 0 0]] x fun e w' => e = .returned (.tuple #[.slice none 0 0, .int .i64 1]) ∧ Below x.heap.size x w') := fun x hx => by
    have hL : resE kind id code bdz = none := Option.isNone_iff_eq_none.1 (by rw [← Option.not_isSome, resE_z]; simp <;> omega)
    have q := ids_s kind id code hk hi hd x hx
    rw [hL] at q
    exact Calls.mono q (fun e w' h => EncP.none h)
  have HT : Hid (Tab w) := ht
  clear ht hi hk hd
  go_enter Tryd.func8, Tryd.ntmps8
  go_wp2_with (first
    | (go_at_call 11; refine (HQ.out _ HT.out).mono ?_; rintro e w1 ⟨⟨a1, c1, rfl⟩, hb1⟩; have HB1 : Hid (Below w.heap.size w w1) := hb1; have HT1 : Hid (Tab w1) := HT.out.below hb1; clear hb1)
    | (go_at_call 17; refine (HS.out _ HT1.out).mono ?_; rintro e w2 ⟨rfl, hb2⟩; have HB2 : Hid (Below w.heap.size w w2) := HB1.out.trans (hb2.mono HB1.out.size); have HT2 : Hid (Tab w2) := HT1.out.below hb2; clear hb2)
    | (go_at_call 10; refine (HA.out _ HT2.out).mono ?_; rintro e w3 ⟨rfl, hb3⟩; have HB3 : Hid (Below w.heap.size w w3) := HB2.out.trans (hb3.mono HB2.out.size); clear hb3))
  go_ret
  exact ⟨rfl, HB3.out⟩
set_option maxHeartbeats 800000 in
set_option maxRecDepth 100000 in
theorem ids_b5 (id : Int) (w : World) (ht : Tab w) (hi : In64 id) (hk : In64 0) (hd : In64 0) (i0 : 0 ≤ id) (i1 : id ≤ 4294967295)  : Calls Tryd.prog 8 #[.int .i64 id, .int .i64 0, .int .i64 0] w fun e w' => e = .returned (.bool true) ∧ Below w.heap.size w w' := by
  have HA : Hid (∀ x, Tab x → Calls Tryd.prog 10 #[] x fun e w' => e = .returned (.bool true) ∧ Below x.heap.size x w') := fun x h => awake_any x h
  have HQ : Hid (∀ x, Tab x → Calls Tryd.prog 11 #[.agg #[.int .i64 3, .int .i64 id, .string ⟨#[]⟩, .int .i64 0, .int .i64 0, .int .i64 0, .int .i64 0, .int .i64 0, .bool false, .int .i64 0, .int .i64 0, .int .i64 0, .slice none 0 0, .int .i64 0, .int .i64 0, .int .i64 0, .string ⟨#[]⟩]] x fun e w' => (∃ a c, e = .returned (.tuple #[.slice a 5 c, .int .i64 0])) ∧ Below x.heap.size x w') := fun x hx => by
    obtain ⟨L, hL⟩ := Option.isSome_iff_exists.1 (show (reqE 3 id bdz).isSome = true by rw [reqE_z]; simp <;> omega)
    have q := ids_q id hi x hx
    rw [hL] at q
    refine Calls.mono q (fun e w' h => ?_)
    obtain ⟨a, c, e1, _, _, _, b⟩ := EncP.some h
    rw [reqE_zl hL] at e1
    exact ⟨⟨a, c, e1⟩, b⟩
  have HS : Hid (∀ x, Tab x → Calls Tryd.prog 17 #[.agg #[.int .i64 0, .int .i64 id, .int .i64 0, .int .i64 0, .int .i64 0, .int .i64 0, .slice none 0 0, .slice none 0 0, .slice none 0 0]] x fun e w' => e = .returned (.tuple #[.slice none 0 0, .int .i64 1]) ∧ Below x.heap.size x w') := fun x hx => by
    have hL : resE 0 id 0 bdz = none := Option.isNone_iff_eq_none.1 (by rw [← Option.not_isSome, resE_z]; simp <;> omega)
    have q := ids_s 0 id 0 hk hi hd x hx
    rw [hL] at q
    exact Calls.mono q (fun e w' h => EncP.none h)
  have HT : Hid (Tab w) := ht
  clear ht hi hk hd
  go_enter Tryd.func8, Tryd.ntmps8
  go_wp2_with (first
    | (go_at_call 11; refine (HQ.out _ HT.out).mono ?_; rintro e w1 ⟨⟨a1, c1, rfl⟩, hb1⟩; have HB1 : Hid (Below w.heap.size w w1) := hb1; have HT1 : Hid (Tab w1) := HT.out.below hb1; clear hb1)
    | (go_at_call 17; refine (HS.out _ HT1.out).mono ?_; rintro e w2 ⟨rfl, hb2⟩; have HB2 : Hid (Below w.heap.size w w2) := HB1.out.trans (hb2.mono HB1.out.size); have HT2 : Hid (Tab w2) := HT1.out.below hb2; clear hb2)
    | (go_at_call 10; refine (HA.out _ HT2.out).mono ?_; rintro e w3 ⟨rfl, hb3⟩; have HB3 : Hid (Below w.heap.size w w3) := HB2.out.trans (hb3.mono HB2.out.size); clear hb3))
  go_ret
  exact ⟨rfl, HB3.out⟩
set_option maxHeartbeats 800000 in
set_option maxRecDepth 100000 in
theorem ids_c1 (id kind code : Int) (w : World) (ht : Tab w) (hi : In64 id) (hk : In64 kind) (hd : In64 code) (i0 : 0 ≤ id) (i1 : id ≤ 4294967295) (k0 : 0 ≤ kind) (k1 : kind ≤ 8) (d0 : 0 < code) (d1 : code ≤ 255) : Calls Tryd.prog 8 #[.int .i64 id, .int .i64 kind, .int .i64 code] w fun e w' => e = .returned (.bool true) ∧ Below w.heap.size w w' := by
  have HA : Hid (∀ x, Tab x → Calls Tryd.prog 10 #[] x fun e w' => e = .returned (.bool true) ∧ Below x.heap.size x w') := fun x h => awake_any x h
  have HQ : Hid (∀ x, Tab x → Calls Tryd.prog 11 #[.agg #[.int .i64 3, .int .i64 id, .string ⟨#[]⟩, .int .i64 0, .int .i64 0, .int .i64 0, .int .i64 0, .int .i64 0, .bool false, .int .i64 0, .int .i64 0, .int .i64 0, .slice none 0 0, .int .i64 0, .int .i64 0, .int .i64 0, .string ⟨#[]⟩]] x fun e w' => (∃ a c, e = .returned (.tuple #[.slice a 5 c, .int .i64 0])) ∧ Below x.heap.size x w') := fun x hx => by
    obtain ⟨L, hL⟩ := Option.isSome_iff_exists.1 (show (reqE 3 id bdz).isSome = true by rw [reqE_z]; simp <;> omega)
    have q := ids_q id hi x hx
    rw [hL] at q
    refine Calls.mono q (fun e w' h => ?_)
    obtain ⟨a, c, e1, _, _, _, b⟩ := EncP.some h
    rw [reqE_zl hL] at e1
    exact ⟨⟨a, c, e1⟩, b⟩
  obtain ⟨L, hL⟩ := Option.isSome_iff_exists.1 (show (resE kind id code bdz).isSome = true by rw [resE_z]; simp <;> omega)
  have HS : Hid (∀ x, Tab x → Calls Tryd.prog 17 #[.agg #[.int .i64 kind, .int .i64 id, .int .i64 code, .int .i64 0, .int .i64 0, .int .i64 0, .slice none 0 0, .slice none 0 0, .slice none 0 0]] x fun e w' => (∃ a c, e = .returned (.tuple #[.slice a L.length c, .int .i64 0]) ∧ BOk w' a c L) ∧ Below x.heap.size x w') := fun x hx => by
    have q := ids_s kind id code hk hi hd x hx
    rw [hL] at q
    refine Calls.mono q (fun e w' h => ?_)
    obtain ⟨a, c, e1, r, b⟩ := EncP.some2 h
    exact ⟨⟨a, c, e1, r⟩, b⟩
  have HP : Hid (∀ x a c, Tab x → BOk x a c L → Calls Tryd.prog 18 #[.slice a L.length c] x fun e w' => (∃ a1 c1 a2 c2 a3 n3 c3, e = .returned (.tuple #[.agg #[.int .i64 kind, .int .i64 id, .int .i64 code, .int .i64 0, .int .i64 0, .int .i64 0, .slice a1 0 c1, .slice a2 0 c2, .slice a3 n3 c3], .int .i64 0])) ∧ Below x.heap.size x w') := fun x a c hx r => by
    have q := parseS_any x a c L hx r.row r.len r.cap r.nil r.big
    rw [resP_back bdz_vb hL] at q
    refine Calls.mono q (fun e w' h => ?_)
    obtain ⟨hb, _, h2⟩ := h
    obtain ⟨p, X, _, e1, _⟩ := h2 _ _ _ _ rfl
    exact ⟨⟨p.na, p.nc, p.ca, p.cc, p.ba, p.bs.length, p.bc, e1⟩, hb⟩
  generalize L.length = nL at *
  have HT : Hid (Tab w) := ht
  clear ht hi hk hd hL
  go_enter Tryd.func8, Tryd.ntmps8
  go_wp2_with (first
    | (go_at_call 11; refine (HQ.out _ HT.out).mono ?_; rintro e w1 ⟨⟨a1, c1, rfl⟩, hb1⟩; have HB1 : Hid (Below w.heap.size w w1) := hb1; have HT1 : Hid (Tab w1) := HT.out.below hb1; clear hb1)
    | (go_at_call 17; refine (HS.out _ HT1.out).mono ?_; rintro e w2 ⟨⟨a2, c2, rfl, hr2⟩, hb2⟩; have HR2 : Hid (BOk w2 a2 c2 L) := hr2; have HB2 : Hid (Below w.heap.size w w2) := HB1.out.trans (hb2.mono HB1.out.size); have HT2 : Hid (Tab w2) := HT1.out.below hb2; clear hb2 hr2)
    | (go_at_call 18; refine (HP.out _ _ _ HT2.out HR2.out).mono ?_; rintro e w4 ⟨⟨d1, e1, d2, e2, d3, n3, e3, rfl⟩, hb4⟩; have HB4 : Hid (∀ o, Below w.heap.size w (w4.alloc o)) := (fun o => (HB2.out.trans (hb4.mono HB2.out.size)).trans ((below_box _).mono (HB2.out.trans (hb4.mono HB2.out.size)).size)); have HT4 : Hid (∀ o, Tab (w4.alloc o)) := (fun o => (HT2.out.below hb4).below (below_box _)); clear hb4)
    | (go_at_call 10; refine (HA.out _ (HT4.out _)).mono ?_; rintro e w3 ⟨rfl, hb3⟩; have HB3 : Hid (Below w.heap.size w w3) := (HB4.out _).trans (hb3.mono (HB4.out _).size); clear hb3))
  go_ret
  exact ⟨rfl, HB3.out⟩
set_option maxHeartbeats 800000 in
set_option maxRecDepth 100000 in
theorem ids_c2 (id kind : Int) (w : World) (ht : Tab w) (hi : In64 id) (hk : In64 kind) (hd : In64 0) (i0 : 0 ≤ id) (i1 : id ≤ 4294967295) (k0 : 0 < kind) (k1 : kind ≤ 8) : Calls Tryd.prog 8 #[.int .i64 id, .int .i64 kind, .int .i64 0] w fun e w' => e = .returned (.bool true) ∧ Below w.heap.size w w' := by
  have HA : Hid (∀ x, Tab x → Calls Tryd.prog 10 #[] x fun e w' => e = .returned (.bool true) ∧ Below x.heap.size x w') := fun x h => awake_any x h
  have HQ : Hid (∀ x, Tab x → Calls Tryd.prog 11 #[.agg #[.int .i64 3, .int .i64 id, .string ⟨#[]⟩, .int .i64 0, .int .i64 0, .int .i64 0, .int .i64 0, .int .i64 0, .bool false, .int .i64 0, .int .i64 0, .int .i64 0, .slice none 0 0, .int .i64 0, .int .i64 0, .int .i64 0, .string ⟨#[]⟩]] x fun e w' => (∃ a c, e = .returned (.tuple #[.slice a 5 c, .int .i64 0])) ∧ Below x.heap.size x w') := fun x hx => by
    obtain ⟨L, hL⟩ := Option.isSome_iff_exists.1 (show (reqE 3 id bdz).isSome = true by rw [reqE_z]; simp <;> omega)
    have q := ids_q id hi x hx
    rw [hL] at q
    refine Calls.mono q (fun e w' h => ?_)
    obtain ⟨a, c, e1, _, _, _, b⟩ := EncP.some h
    rw [reqE_zl hL] at e1
    exact ⟨⟨a, c, e1⟩, b⟩
  obtain ⟨L, hL⟩ := Option.isSome_iff_exists.1 (show (resE kind id 0 bdz).isSome = true by rw [resE_z]; simp <;> omega)
  have HS : Hid (∀ x, Tab x → Calls Tryd.prog 17 #[.agg #[.int .i64 kind, .int .i64 id, .int .i64 0, .int .i64 0, .int .i64 0, .int .i64 0, .slice none 0 0, .slice none 0 0, .slice none 0 0]] x fun e w' => (∃ a c, e = .returned (.tuple #[.slice a L.length c, .int .i64 0]) ∧ BOk w' a c L) ∧ Below x.heap.size x w') := fun x hx => by
    have q := ids_s kind id 0 hk hi hd x hx
    rw [hL] at q
    refine Calls.mono q (fun e w' h => ?_)
    obtain ⟨a, c, e1, r, b⟩ := EncP.some2 h
    exact ⟨⟨a, c, e1, r⟩, b⟩
  have HP : Hid (∀ x a c, Tab x → BOk x a c L → Calls Tryd.prog 18 #[.slice a L.length c] x fun e w' => (∃ a1 c1 a2 c2 a3 n3 c3, e = .returned (.tuple #[.agg #[.int .i64 kind, .int .i64 id, .int .i64 0, .int .i64 0, .int .i64 0, .int .i64 0, .slice a1 0 c1, .slice a2 0 c2, .slice a3 n3 c3], .int .i64 0])) ∧ Below x.heap.size x w') := fun x a c hx r => by
    have q := parseS_any x a c L hx r.row r.len r.cap r.nil r.big
    rw [resP_back bdz_vb hL] at q
    refine Calls.mono q (fun e w' h => ?_)
    obtain ⟨hb, _, h2⟩ := h
    obtain ⟨p, X, _, e1, _⟩ := h2 _ _ _ _ rfl
    exact ⟨⟨p.na, p.nc, p.ca, p.cc, p.ba, p.bs.length, p.bc, e1⟩, hb⟩
  generalize L.length = nL at *
  have HT : Hid (Tab w) := ht
  clear ht hi hk hd hL
  go_enter Tryd.func8, Tryd.ntmps8
  go_wp2_with (first
    | (go_at_call 11; refine (HQ.out _ HT.out).mono ?_; rintro e w1 ⟨⟨a1, c1, rfl⟩, hb1⟩; have HB1 : Hid (Below w.heap.size w w1) := hb1; have HT1 : Hid (Tab w1) := HT.out.below hb1; clear hb1)
    | (go_at_call 17; refine (HS.out _ HT1.out).mono ?_; rintro e w2 ⟨⟨a2, c2, rfl, hr2⟩, hb2⟩; have HR2 : Hid (BOk w2 a2 c2 L) := hr2; have HB2 : Hid (Below w.heap.size w w2) := HB1.out.trans (hb2.mono HB1.out.size); have HT2 : Hid (Tab w2) := HT1.out.below hb2; clear hb2 hr2)
    | (go_at_call 18; refine (HP.out _ _ _ HT2.out HR2.out).mono ?_; rintro e w4 ⟨⟨d1, e1, d2, e2, d3, n3, e3, rfl⟩, hb4⟩; have HB4 : Hid (∀ o, Below w.heap.size w (w4.alloc o)) := (fun o => (HB2.out.trans (hb4.mono HB2.out.size)).trans ((below_box _).mono (HB2.out.trans (hb4.mono HB2.out.size)).size)); have HT4 : Hid (∀ o, Tab (w4.alloc o)) := (fun o => (HT2.out.below hb4).below (below_box _)); clear hb4)
    | (go_at_call 10; refine (HA.out _ (HT4.out _)).mono ?_; rintro e w3 ⟨rfl, hb3⟩; have HB3 : Hid (Below w.heap.size w w3) := (HB4.out _).trans (hb3.mono (HB4.out _).size); clear hb3))
  go_ret
  exact ⟨rfl, HB3.out⟩
theorem codecIDs_walk (a0 a1 a2 : Int) (w : World) (ht : Tab w) (w0 : (Lit.int .i64 a0).wf = true) (w1 : (Lit.int .i64 a1).wf = true) (w2 : (Lit.int .i64 a2).wf = true) : Calls Tryd.prog 8 #[.int .i64 a0, .int .i64 a1, .int .i64 a2] w fun e w' => e = .returned (.bool true) ∧ Below w.heap.size w w' := by
  have h0 : In64 a0 := bd64 w0
  have h1 : In64 a1 := bd64 w1
  have h2 : In64 a2 := bd64 w2
  by_cases i0 : a0 < 0
  · exact ids_a1 a0 a1 a2 w ht h0 h1 h2 i0
  by_cases i1 : 4294967295 < a0
  · exact ids_a2 a0 a1 a2 w ht h0 h1 h2 (by omega) i1
  by_cases k0 : a1 < 0
  · exact ids_b1 a0 a1 a2 w ht h0 h1 h2 (by omega) (by omega) k0
  by_cases k1 : 8 < a1
  · exact ids_b2 a0 a1 a2 w ht h0 h1 h2 (by omega) (by omega) (by omega) k1
  by_cases d0 : a2 < 0
  · exact ids_b3 a0 a1 a2 w ht h0 h1 h2 (by omega) (by omega) (by omega) (by omega) d0
  by_cases d1 : 255 < a2
  · exact ids_b4 a0 a1 a2 w ht h0 h1 h2 (by omega) (by omega) (by omega) (by omega) (by omega) d1
  by_cases d2 : a2 = 0
  · subst d2
    by_cases k2 : a1 = 0
    · subst k2
      exact ids_b5 a0 w ht h0 h1 h2 (by omega) (by omega)
    · exact ids_c2 a0 a1 w ht h0 h1 h2 (by omega) (by omega) (by omega) (by omega)
  · exact ids_c1 a0 a1 a2 w ht h0 h1 h2 (by omega) (by omega) (by omega) (by omega) (by omega) (by omega)
end Go.Proofs.YtaooidckmepdeaaDoor
