/- The walk of BatchCounts. -/
import Derived.Test.YtgpeldmplkijlaaDoorCt
import Derived.Test.YtgpeldmplkijlaaDoorAw
namespace Go.Proofs.YtgpeldmplkijlaaDoor
set_option linter.unusedSimpArgs false
set_option linter.unusedVariables false
open Go.RowKit
theorem rep_succ (k m : Nat) : rcv (List.replicate (k + 1) (rn m 0)) = rcv (List.replicate k (rn m 0)) ++ rcv [rn m 0] := by
  rw [← rcv_app, List.replicate_succ']
theorem rn_row (y : World) (m : Nat) : RRow (y.alloc (.cells #[.bool false, .string ⟨#[]⟩, .bool true, .string (strN (List.replicate m 0)), .int .i64 0, .int .i64 0] 58)) (some ⟨y.heap.size, 0, none⟩) [rn m 0] := rrow_new y (rn m 0)
theorem zeros_row {w w1 : World} {g B m : Nat} (h : w1.ownsRow B 5 1 (.slice (some ⟨g, 0, none⟩) m m) m (madeCells (Value.int .u8 0).cells (m * 1)).toList) : Row w1 (some ⟨g, 0, none⟩) (List.replicate m 0) := by
  rw [made_zero] at h
  have h2 : Own B w1 g m (List.replicate m 0) := by
    unfold Own
    rw [List.length_replicate]
    simpa using h
  exact h2.row (rep_lt m)
theorem zeros_conv {w1 : World} {g m : Nat} (h : Row w1 (some ⟨g, 0, none⟩) (List.replicate m 0)) : (convert 27 9 (.slice (some ⟨g, 0, none⟩) m m)).run Tryd.prog w1 = .ok (.string (strN (List.replicate m 0))) w1 := by
  have h2 := conv_row m h
  rw [List.length_replicate] at h2
  exact h2
set_option maxHeartbeats 1600000 in
set_option maxRecDepth 100000 in
theorem counts_arg (n m : Nat) (w : World) (ht : Tab w) (hn : n ≤ 110) (hm : m ≤ 2000) (hc : n = 0 ∨ 100 < n) :
    Calls Tryd.prog 10 #[.int .i64 (n : Int), .int .i64 (m : Int)] w fun e w' => e = .returned (.bool true) ∧ Below w.heap.size w w' := by
  obtain ⟨i0, hi, hz0, hz1, hz2⟩ := info_parts Tryd.info5
  have hck : chkB (cb n m) = 1 ∧ frR 0 0 0 (List.replicate n (rn m 0)) = bz := by
    have h1 : chkB (cb n m) = 1 := by
      rcases hc with rfl | hc
      · exact (fr_none 0 0 0).1
      · exact cb_many n m hc
    refine ⟨h1, ?_⟩
    unfold frR
    rw [show frB 0 0 0 (List.replicate n (rn m 0)) = cb n m from rfl, h1]
    rfl
  have HF : Hid (∀ x a c, (a = none → c = 0) → Tab x → RRow x a (List.replicate n (rn m 0)) → Calls Tryd.prog 23 #[.int .i64 0, .int .i64 0, .int .i64 0, .slice a n c] x fun e w' => ∃ a' c', e = .returned (.tuple #[bav bz a' c', .int .i64 1]) ∧ RRow w' a' bz.rs ∧ Below x.heap.size x w') := by
    intro x a c h1 h2 h3
    have h4 := fresh_any 0 0 0 a c (List.replicate n (rn m 0)) (by simp; omega) h1 (by decide) (by decide) x h2 h3
    rw [show frB 0 0 0 (List.replicate n (rn m 0)) = cb n m from rfl, List.length_replicate] at h4
    rw [hck.1, hck.2] at h4
    refine h4.mono ?_
    rintro e w' ⟨a', c', rfl, h5, _, h6⟩
    exact ⟨a', c', rfl, h5, h6⟩
  clear hck
  simp only [bav, bz] at HF
  rw [show ([] : List Rc).length = 0 from rfl] at HF
  have HA : Hid (∀ x, Tab x → Calls Tryd.prog 12 #[] x fun e w' => e = .returned (.bool true) ∧ Below x.heap.size x w') := fun x h => awake_any x h
  have HT : Hid (Tab w) := ht
  have HL : Hid (∀ k, rcv (List.replicate (k + 1) (rn m 0)) = rcv (List.replicate k (rn m 0)) ++ rcv [rn m 0]) := fun k => rep_succ k m
  have HRN : Hid (∀ y : World, RRow (y.alloc (.cells #[.bool false, .string ⟨#[]⟩, .bool true, .string (strN (List.replicate m 0)), .int .i64 0, .int .i64 0] 58)) (some ⟨y.heap.size, 0, none⟩) [rn m 0]) := fun y => rn_row y m
  have HZ : Hid (∀ (w1 : World) (g B : Nat), w1.ownsRow B 5 1 (.slice (some ⟨g, 0, none⟩) m m) m (madeCells (Value.int .u8 0).cells (m * 1)).toList → (convert 27 9 (.slice (some ⟨g, 0, none⟩) m m)).run Tryd.prog w1 = .ok (.string (strN (List.replicate m 0))) w1) := fun w1 g B h => zeros_conv (zeros_row (w := w1) h)
  have HO0 : Hid (∀ x : World, x.ownsRow w.heap.size 58 6 (.slice none 0 0) 0 (rcv (List.replicate 0 (rn m 0)))) := fun x => World.ownsRow_nil _ _ _ _
  have HRR : Hid (∀ (x : World) v, x.ownsRow w.heap.size 58 6 v n (rcv (List.replicate n (rn m 0))) → ∃ a c, v = .slice a n c ∧ RRow x a (List.replicate n (rn m 0)) ∧ (a = none → c = 0)) := by
    intro x v h
    have h2 : x.ownsRow w.heap.size 58 6 v (List.replicate n (rn m 0)).length (rcv (List.replicate n (rn m 0))) := by rw [List.length_replicate]; exact h
    obtain ⟨a, c, e, h3, h4, _⟩ := owns_rrow h2
    rw [List.length_replicate] at e
    exact ⟨a, c, e, h3, h4⟩
  generalize strN (List.replicate m 0) = S at *
  obtain ⟨X, HX⟩ : ∃ X : Nat → List Value, Hid (∀ k, rcv (List.replicate k (rn m 0)) = X k) := ⟨_, fun _ => rfl⟩
  have HL2 : Hid (∀ k, X (k + 1) = X k ++ rcv [rn m 0]) := fun k => by rw [← HX.out, ← HX.out]; exact HL.out k
  rw [HX.out] at HO0 HRR
  clear HL HX
  generalize rn m 0 = R at *
  generalize List.replicate n R = RS at *
  have hnI : ¬ (n : Int) < 0 := by omega
  have hnI2 : ¬ (110 : Int) < (n : Int) := by omega
  have hmI : ¬ (m : Int) < 0 := by omega
  have hmI2 : ¬ (2000 : Int) < (m : Int) := by omega
  have d1 : decide ((n : Int) < 0) = false := decide_eq_false hnI
  have d2 : decide ((110 : Int) < (n : Int)) = false := decide_eq_false hnI2
  have d3 : decide ((m : Int) < 0) = false := decide_eq_false hmI
  have d4 : decide ((2000 : Int) < (m : Int)) = false := decide_eq_false hmI2
  clear ht
  go_enter Tryd.func10, Tryd.ntmps10
  go_wp2_with fail
  go_loopw [5, 6] (fun v i x => ∃ k : Nat, k ≤ n ∧ i = .int .i64 k ∧ x.ownsRow w.heap.size 58 6 v k (X k) ∧ Below w.heap.size w x) (fun _ i _ => n - (intOf i).toNat)
  case atStart => exact ⟨0, by omega, rfl, HO0.out _, Below.refl _ _⟩
  case round =>
    obtain ⟨k, hk, rfl, hown, hbel⟩ := hrel
    have HS : Hid (w.heap.size ≤ wr.heap.size) := hbel.size
    by_cases hlt : k < n
    · have hltI : (k : Int) < (n : Int) := by omega
      have HXk : Hid (X (k + 1) = X k ++ rcv [R]) := HL2.out k
      go_wp2_with (first
        | (at_make; refine wpList_make_full _ rfl _ _ 27 rfl wr.heap.size 5 i0 (.int .u8 0) 1 Tryd.underlying27 hi hz0 hz1 .i64 .i64 _ _ m rfl rfl rfl rfl (by rw [hz2]; omega) (by unfold maxLen; omega) (Nat.le_refl _) ?_; intro w1 hown1 hg1; have kc := HZ.out w1 _ _ hown1; have HO1 : Hid (∀ o, (w1.alloc o).ownsRow w.heap.size 58 6 u5 k (X k)) := (fun o => owns_below (owns_below hown (below_made hg1)) (below_box o)); have HB1 : Hid (Below w.heap.size w w1) := hbel.trans ((below_made hg1).mono hbel.size); clear hown hbel hown1 hg1)
        | (at_builtin; refine wpList_append_recs (by rfl) _ _ rfl w.heap.size w _ _ _ rfl (HO1.out _) (HB1.out.alloc HB1.out.size _) (Nat.le_trans HB1.out.size (by simp)) _ 1 [R] rfl (HRN.out _) (fun c => by cases c) (by simp; omega) ?_; intro v2 w2 hown2 hb2))
      exact ⟨⟨k + 1, by omega, by go_num, by rw [HXk.out]; exact hown2, hb2⟩, by simp [intOf]; omega⟩
    · obtain rfl : n = k := by omega
      obtain ⟨a0, c0, rfl, hr0, hn0⟩ := HRR.out _ _ hown
      have HR0 : Hid (RRow wr a0 RS) := hr0
      have HB0 : Hid (Below w.heap.size w wr) := hbel
      clear hown hr0 hbel HRR HZ HO0 HRN HL2 hlt hk
      have q1 : IntKind.i64.wrap (4 + (m : Int)) = 4 + (m : Int) := by rw [IntKind.wrap_i64]; omega
      have q2 : IntKind.i64.wrap (4 + (m : Int) + 1) = 4 + (m : Int) + 1 := by rw [IntKind.wrap_i64]; omega
      obtain ⟨t0, HT0⟩ : ∃ t0, Hid (((n : Int) == 0 || decide ((100 : Int) < (n : Int))) = t0) := ⟨_, rfl⟩
      by_cases h128 : (128 : Int) ≤ (m : Int)
      all_goals
        rcases hc with hc | hc
        · subst hc
          rw [show ((0 : Nat) : Int) = 0 from rfl]
          go_wp2_with (first
            | (go_at_call 23; refine (HF.out _ _ _ hn0 (Tab.below HT.out HB0.out) HR0.out).mono ?_; rintro e w3 ⟨a3, c3, rfl, hr3, hb3⟩; have HB3 : Hid (Below w.heap.size w w3) := HB0.out.trans (hb3.mono HB0.out.size); clear hb3 HB0 HR0 hn0)
            | (go_at_call 12; refine (HA.out _ (Tab.below HT.out (HB3.out.alloc HB3.out.size _))).mono ?_; rintro e w9 ⟨rfl, hb9⟩; have HB9 : Hid (Below w.heap.size w w9) := (HB3.out.alloc HB3.out.size _).trans (hb9.mono (by have := HB3.out.size; simp; omega))))
          go_ret
          exact ⟨rfl, HB9.out⟩
        · have hk0 : ((n : Int) == 0) = false := by simp; omega
          have hk1 : (100 : Int) < (n : Int) := by omega
          have hk2 : decide ((100 : Int) < (n : Int)) = true := decide_eq_true hk1
          go_wp2_with (first
            | (go_at_call 23; refine (HF.out _ _ _ hn0 (Tab.below HT.out HB0.out) HR0.out).mono ?_; rintro e w3 ⟨a3, c3, rfl, hr3, hb3⟩; have HB3 : Hid (Below w.heap.size w w3) := HB0.out.trans (hb3.mono HB0.out.size); clear hb3 HB0 HR0 hn0)
            | (go_at_call 12; refine (HA.out _ (Tab.below HT.out (HB3.out.alloc HB3.out.size _))).mono ?_; rintro e w9 ⟨rfl, hb9⟩; have HB9 : Hid (Below w.heap.size w w9) := (HB3.out.alloc HB3.out.size _).trans (hb9.mono (by have := HB3.out.size; simp; omega))))
          go_ret
          exact ⟨rfl, HB9.out⟩
set_option maxHeartbeats 1600000 in
set_option maxRecDepth 100000 in
theorem counts_big (n m : Nat) (w : World) (ht : Tab w) (hn : n ≤ 110) (hm : m ≤ 2000) (h0 : 0 < n) (h1 : n ≤ 100) (hb : 6000 < 48 + n * eachN m) :
    Calls Tryd.prog 10 #[.int .i64 (n : Int), .int .i64 (m : Int)] w fun e w' => e = .returned (.bool true) ∧ Below w.heap.size w w' := by
  obtain ⟨i0, hi, hz0, hz1, hz2⟩ := info_parts Tryd.info5
  have hck : chkB (cb n m) = 2 ∧ frR 0 0 0 (List.replicate n (rn m 0)) = bz := by
    have h2 : chkB (cb n m) = 2 := cb_big n m h0 h1 hm hb
    refine ⟨h2, ?_⟩
    unfold frR
    rw [show frB 0 0 0 (List.replicate n (rn m 0)) = cb n m from rfl, h2]
    rfl
  have HF : Hid (∀ x a c, (a = none → c = 0) → Tab x → RRow x a (List.replicate n (rn m 0)) → Calls Tryd.prog 23 #[.int .i64 0, .int .i64 0, .int .i64 0, .slice a n c] x fun e w' => ∃ a' c', e = .returned (.tuple #[bav bz a' c', .int .i64 2]) ∧ RRow w' a' bz.rs ∧ Below x.heap.size x w') := by
    intro x a c h1 h2 h3
    have h4 := fresh_any 0 0 0 a c (List.replicate n (rn m 0)) (by simp; omega) h1 (by decide) (by decide) x h2 h3
    rw [show frB 0 0 0 (List.replicate n (rn m 0)) = cb n m from rfl, List.length_replicate] at h4
    rw [hck.1, hck.2] at h4
    refine h4.mono ?_
    rintro e w' ⟨a', c', rfl, h5, _, h6⟩
    exact ⟨a', c', rfl, h5, h6⟩
  clear hck
  simp only [bav, bz] at HF
  rw [show ([] : List Rc).length = 0 from rfl] at HF
  have HA : Hid (∀ x, Tab x → Calls Tryd.prog 12 #[] x fun e w' => e = .returned (.bool true) ∧ Below x.heap.size x w') := fun x h => awake_any x h
  have HT : Hid (Tab w) := ht
  have HL : Hid (∀ k, rcv (List.replicate (k + 1) (rn m 0)) = rcv (List.replicate k (rn m 0)) ++ rcv [rn m 0]) := fun k => rep_succ k m
  have HRN : Hid (∀ y : World, RRow (y.alloc (.cells #[.bool false, .string ⟨#[]⟩, .bool true, .string (strN (List.replicate m 0)), .int .i64 0, .int .i64 0] 58)) (some ⟨y.heap.size, 0, none⟩) [rn m 0]) := fun y => rn_row y m
  have HZ : Hid (∀ (w1 : World) (g B : Nat), w1.ownsRow B 5 1 (.slice (some ⟨g, 0, none⟩) m m) m (madeCells (Value.int .u8 0).cells (m * 1)).toList → (convert 27 9 (.slice (some ⟨g, 0, none⟩) m m)).run Tryd.prog w1 = .ok (.string (strN (List.replicate m 0))) w1) := fun w1 g B h => zeros_conv (zeros_row (w := w1) h)
  have HO0 : Hid (∀ x : World, x.ownsRow w.heap.size 58 6 (.slice none 0 0) 0 (rcv (List.replicate 0 (rn m 0)))) := fun x => World.ownsRow_nil _ _ _ _
  have HRR : Hid (∀ (x : World) v, x.ownsRow w.heap.size 58 6 v n (rcv (List.replicate n (rn m 0))) → ∃ a c, v = .slice a n c ∧ RRow x a (List.replicate n (rn m 0)) ∧ (a = none → c = 0)) := by
    intro x v h
    have h2 : x.ownsRow w.heap.size 58 6 v (List.replicate n (rn m 0)).length (rcv (List.replicate n (rn m 0))) := by rw [List.length_replicate]; exact h
    obtain ⟨a, c, e, h3, h4, _⟩ := owns_rrow h2
    rw [List.length_replicate] at e
    exact ⟨a, c, e, h3, h4⟩
  generalize strN (List.replicate m 0) = S at *
  obtain ⟨X, HX⟩ : ∃ X : Nat → List Value, Hid (∀ k, rcv (List.replicate k (rn m 0)) = X k) := ⟨_, fun _ => rfl⟩
  have HL2 : Hid (∀ k, X (k + 1) = X k ++ rcv [rn m 0]) := fun k => by rw [← HX.out, ← HX.out]; exact HL.out k
  rw [HX.out] at HO0 HRR
  clear HL HX
  generalize rn m 0 = R at *
  generalize List.replicate n R = RS at *
  have hnI : ¬ (n : Int) < 0 := by omega
  have hnI2 : ¬ (110 : Int) < (n : Int) := by omega
  have hmI : ¬ (m : Int) < 0 := by omega
  have hmI2 : ¬ (2000 : Int) < (m : Int) := by omega
  have d1 : decide ((n : Int) < 0) = false := decide_eq_false hnI
  have d2 : decide ((110 : Int) < (n : Int)) = false := decide_eq_false hnI2
  have d3 : decide ((m : Int) < 0) = false := decide_eq_false hmI
  have d4 : decide ((2000 : Int) < (m : Int)) = false := decide_eq_false hmI2
  clear ht
  go_enter Tryd.func10, Tryd.ntmps10
  go_wp2_with fail
  go_loopw [5, 6] (fun v i x => ∃ k : Nat, k ≤ n ∧ i = .int .i64 k ∧ x.ownsRow w.heap.size 58 6 v k (X k) ∧ Below w.heap.size w x) (fun _ i _ => n - (intOf i).toNat)
  case atStart => exact ⟨0, by omega, rfl, HO0.out _, Below.refl _ _⟩
  case round =>
    obtain ⟨k, hk, rfl, hown, hbel⟩ := hrel
    have HS : Hid (w.heap.size ≤ wr.heap.size) := hbel.size
    by_cases hlt : k < n
    · have hltI : (k : Int) < (n : Int) := by omega
      have HXk : Hid (X (k + 1) = X k ++ rcv [R]) := HL2.out k
      go_wp2_with (first
        | (at_make; refine wpList_make_full _ rfl _ _ 27 rfl wr.heap.size 5 i0 (.int .u8 0) 1 Tryd.underlying27 hi hz0 hz1 .i64 .i64 _ _ m rfl rfl rfl rfl (by rw [hz2]; omega) (by unfold maxLen; omega) (Nat.le_refl _) ?_; intro w1 hown1 hg1; have kc := HZ.out w1 _ _ hown1; have HO1 : Hid (∀ o, (w1.alloc o).ownsRow w.heap.size 58 6 u5 k (X k)) := (fun o => owns_below (owns_below hown (below_made hg1)) (below_box o)); have HB1 : Hid (Below w.heap.size w w1) := hbel.trans ((below_made hg1).mono hbel.size); clear hown hbel hown1 hg1)
        | (at_builtin; refine wpList_append_recs (by rfl) _ _ rfl w.heap.size w _ _ _ rfl (HO1.out _) (HB1.out.alloc HB1.out.size _) (Nat.le_trans HB1.out.size (by simp)) _ 1 [R] rfl (HRN.out _) (fun c => by cases c) (by simp; omega) ?_; intro v2 w2 hown2 hb2))
      exact ⟨⟨k + 1, by omega, by go_num, by rw [HXk.out]; exact hown2, hb2⟩, by simp [intOf]; omega⟩
    · obtain rfl : n = k := by omega
      obtain ⟨a0, c0, rfl, hr0, hn0⟩ := HRR.out _ _ hown
      have HR0 : Hid (RRow wr a0 RS) := hr0
      have HB0 : Hid (Below w.heap.size w wr) := hbel
      clear hown hr0 hbel HRR HZ HO0 HRN HL2 hlt hk
      have hk0 : ((n : Int) == 0) = false := by simp; omega
      have hk1 : ¬ (100 : Int) < (n : Int) := by omega
      have hk2 : decide ((100 : Int) < (n : Int)) = false := decide_eq_false hk1
      obtain ⟨E1, HE1⟩ : ∃ E1 : Nat, Hid (4 + m = E1) := ⟨_, rfl⟩
      have q1 : IntKind.i64.wrap (4 + (m : Int)) = (E1 : Int) := by have := HE1.out; rw [IntKind.wrap_i64]; omega
      obtain ⟨E, HE⟩ : ∃ E : Nat, Hid (eachN m = E) := ⟨_, rfl⟩
      have hEb : E ≤ 2005 := by rw [← HE.out]; unfold eachN; split <;> omega
      have hme : (n : Int) * (E : Int) = ((n * E : Nat) : Int) := by simp
      have hmb : n * E ≤ 110 * 2005 := Nat.mul_le_mul hn hEb
      rw [HE.out] at hb
      obtain ⟨M, HM⟩ : ∃ M : Nat, Hid (n * E = M) := ⟨_, rfl⟩
      rw [HM.out] at hme hmb hb
      have q3 : IntKind.i64.wrap ((n : Int) * (E : Int)) = (M : Int) := by rw [hme, IntKind.wrap_i64]; omega
      have q4 : IntKind.i64.wrap (48 + (M : Int)) = 48 + (M : Int) := by rw [IntKind.wrap_i64]; omega
      clear hme
      have hbI : (6000 : Int) < 48 + (M : Int) := by omega
      by_cases h128 : 128 ≤ m
      · have q2 : IntKind.i64.wrap ((E1 : Int) + 1) = (E : Int) := by have h1 := HE1.out; have h2 := HE.out; unfold eachN at h2; rw [if_pos h128] at h2; rw [IntKind.wrap_i64]; omega
        have h128I : (128 : Int) ≤ (m : Int) := by omega
        go_wp2_with (first
          | (go_at_call 23; refine (HF.out _ _ _ hn0 (Tab.below HT.out HB0.out) HR0.out).mono ?_; rintro e w3 ⟨a3, c3, rfl, hr3, hb3⟩; have HB3 : Hid (Below w.heap.size w w3) := HB0.out.trans (hb3.mono HB0.out.size); clear hb3 HB0 HR0 hn0)
          | (go_at_call 12; refine (HA.out _ (Tab.below HT.out (HB3.out.alloc HB3.out.size _))).mono ?_; rintro e w9 ⟨rfl, hb9⟩; have HB9 : Hid (Below w.heap.size w w9) := (HB3.out.alloc HB3.out.size _).trans (hb9.mono (by have := HB3.out.size; simp; omega))))
        go_ret
        exact ⟨rfl, HB9.out⟩
      · obtain rfl : E = E1 := by have h1 := HE1.out; have h2 := HE.out; unfold eachN at h2; rw [if_neg h128] at h2; omega
        have h128I : ¬ (128 : Int) ≤ (m : Int) := by omega
        go_wp2_with (first
          | (go_at_call 23; refine (HF.out _ _ _ hn0 (Tab.below HT.out HB0.out) HR0.out).mono ?_; rintro e w3 ⟨a3, c3, rfl, hr3, hb3⟩; have HB3 : Hid (Below w.heap.size w w3) := HB0.out.trans (hb3.mono HB0.out.size); clear hb3 HB0 HR0 hn0)
          | (go_at_call 12; refine (HA.out _ (Tab.below HT.out (HB3.out.alloc HB3.out.size _))).mono ?_; rintro e w9 ⟨rfl, hb9⟩; have HB9 : Hid (Below w.heap.size w w9) := (HB3.out.alloc HB3.out.size _).trans (hb9.mono (by have := HB3.out.size; simp; omega))))
        go_ret
        exact ⟨rfl, HB9.out⟩
set_option maxHeartbeats 1600000 in
set_option maxRecDepth 100000 in
theorem counts_fit (n m : Nat) (w : World) (ht : Tab w) (hn : n ≤ 110) (hm : m ≤ 2000) (h0 : 0 < n) (h1 : n ≤ 100) (hb : 48 + n * eachN m ≤ 6000) :
    Calls Tryd.prog 10 #[.int .i64 (n : Int), .int .i64 (m : Int)] w fun e w' => e = .returned (.bool true) ∧ Below w.heap.size w w' := by
  obtain ⟨i0, hi, hz0, hz1, hz2⟩ := info_parts Tryd.info5
  obtain ⟨hc0, hlen⟩ := cb_fit n m h0 h1 hm hb
  have hfr : frR 0 0 0 (List.replicate n (rn m 0)) = cb n m := by
    unfold frR
    rw [show frB 0 0 0 (List.replicate n (rn m 0)) = cb n m from rfl, hc0]
    rfl
  have HF : Hid (∀ x a c, (a = none → c = 0) → Tab x → RRow x a (List.replicate n (rn m 0)) → Calls Tryd.prog 23 #[.int .i64 0, .int .i64 0, .int .i64 0, .slice a n c] x fun e w' => ∃ a' c', e = .returned (.tuple #[bav (cb n m) a' c', .int .i64 0]) ∧ RRow w' a' (cb n m).rs ∧ Below x.heap.size x w') := by
    intro x a c h1 h2 h3
    have h4 := fresh_any 0 0 0 a c (List.replicate n (rn m 0)) (by simp; omega) h1 (by decide) (by decide) x h2 h3
    rw [show frB 0 0 0 (List.replicate n (rn m 0)) = cb n m from rfl, List.length_replicate] at h4
    rw [hc0, hfr] at h4
    refine h4.mono ?_
    rintro e w' ⟨a', c', rfl, h5, _, h6⟩
    exact ⟨a', c', rfl, h5, h6⟩
  have HEN : Hid (∀ x a' c', Tab x → RRow x a' (cb n m).rs → Calls Tryd.prog 13 #[bav (cb n m) a' c'] x fun e w' => ∃ g, e = .returned (.tuple #[.slice (some ⟨g, 0, none⟩) (encBL (cb n m)).length (encBL (cb n m)).length, .int .i64 0]) ∧ Own x.heap.size w' g (encBL (cb n m)).length (encBL (cb n m)) ∧ Below x.heap.size x w') := fun x a' c' h1 h2 => bencode_ok (cb n m) a' c' x h2 ⟨by show (0 : Int) ≤ 9223372036854775807; decide, by show (0 : Int) ≤ 9223372036854775807; decide⟩ h1 hc0
  have hsp : (cb n m).span = (n : Int) := by show max 1 (((List.replicate n (rn m 0)).length : Nat) : Int) = _; rw [List.length_replicate]; omega
  have hrl := cb_len n m
  rw [hlen] at HEN
  clear hc0 hlen hfr
  generalize encBL (cb n m) = EL at HEN
  generalize cb n m = Q at HF HEN hsp hrl
  obtain ⟨q0, q1', q2', q3', QR⟩ := Q
  simp only at hsp hrl
  subst hsp
  simp only [bav] at HF HEN
  rw [hrl] at HF HEN
  clear hrl
  have HA : Hid (∀ x, Tab x → Calls Tryd.prog 12 #[] x fun e w' => e = .returned (.bool true) ∧ Below x.heap.size x w') := fun x h => awake_any x h
  have HT : Hid (Tab w) := ht
  have HL : Hid (∀ k, rcv (List.replicate (k + 1) (rn m 0)) = rcv (List.replicate k (rn m 0)) ++ rcv [rn m 0]) := fun k => rep_succ k m
  have HRN : Hid (∀ y : World, RRow (y.alloc (.cells #[.bool false, .string ⟨#[]⟩, .bool true, .string (strN (List.replicate m 0)), .int .i64 0, .int .i64 0] 58)) (some ⟨y.heap.size, 0, none⟩) [rn m 0]) := fun y => rn_row y m
  have HZ : Hid (∀ (w1 : World) (g B : Nat), w1.ownsRow B 5 1 (.slice (some ⟨g, 0, none⟩) m m) m (madeCells (Value.int .u8 0).cells (m * 1)).toList → (convert 27 9 (.slice (some ⟨g, 0, none⟩) m m)).run Tryd.prog w1 = .ok (.string (strN (List.replicate m 0))) w1) := fun w1 g B h => zeros_conv (zeros_row (w := w1) h)
  have HO0 : Hid (∀ x : World, x.ownsRow w.heap.size 58 6 (.slice none 0 0) 0 (rcv (List.replicate 0 (rn m 0)))) := fun x => World.ownsRow_nil _ _ _ _
  have HRR : Hid (∀ (x : World) v, x.ownsRow w.heap.size 58 6 v n (rcv (List.replicate n (rn m 0))) → ∃ a c, v = .slice a n c ∧ RRow x a (List.replicate n (rn m 0)) ∧ (a = none → c = 0)) := by
    intro x v h
    have h2 : x.ownsRow w.heap.size 58 6 v (List.replicate n (rn m 0)).length (rcv (List.replicate n (rn m 0))) := by rw [List.length_replicate]; exact h
    obtain ⟨a, c, e, h3, h4, _⟩ := owns_rrow h2
    rw [List.length_replicate] at e
    exact ⟨a, c, e, h3, h4⟩
  generalize strN (List.replicate m 0) = S at *
  obtain ⟨X, HX⟩ : ∃ X : Nat → List Value, Hid (∀ k, rcv (List.replicate k (rn m 0)) = X k) := ⟨_, fun _ => rfl⟩
  have HL2 : Hid (∀ k, X (k + 1) = X k ++ rcv [rn m 0]) := fun k => by rw [← HX.out, ← HX.out]; exact HL.out k
  rw [HX.out] at HO0 HRR
  clear HL HX
  generalize rn m 0 = R at *
  generalize List.replicate n R = RS at *
  have hnI : ¬ (n : Int) < 0 := by omega
  have hnI2 : ¬ (110 : Int) < (n : Int) := by omega
  have hmI : ¬ (m : Int) < 0 := by omega
  have hmI2 : ¬ (2000 : Int) < (m : Int) := by omega
  have d1 : decide ((n : Int) < 0) = false := decide_eq_false hnI
  have d2 : decide ((110 : Int) < (n : Int)) = false := decide_eq_false hnI2
  have d3 : decide ((m : Int) < 0) = false := decide_eq_false hmI
  have d4 : decide ((2000 : Int) < (m : Int)) = false := decide_eq_false hmI2
  clear ht
  go_enter Tryd.func10, Tryd.ntmps10
  go_wp2_with fail
  go_loopw [5, 6] (fun v i x => ∃ k : Nat, k ≤ n ∧ i = .int .i64 k ∧ x.ownsRow w.heap.size 58 6 v k (X k) ∧ Below w.heap.size w x) (fun _ i _ => n - (intOf i).toNat)
  case atStart => exact ⟨0, by omega, rfl, HO0.out _, Below.refl _ _⟩
  case round =>
    obtain ⟨k, hk, rfl, hown, hbel⟩ := hrel
    have HS : Hid (w.heap.size ≤ wr.heap.size) := hbel.size
    by_cases hlt : k < n
    · have hltI : (k : Int) < (n : Int) := by omega
      have HXk : Hid (X (k + 1) = X k ++ rcv [R]) := HL2.out k
      go_wp2_with (first
        | (at_make; refine wpList_make_full _ rfl _ _ 27 rfl wr.heap.size 5 i0 (.int .u8 0) 1 Tryd.underlying27 hi hz0 hz1 .i64 .i64 _ _ m rfl rfl rfl rfl (by rw [hz2]; omega) (by unfold maxLen; omega) (Nat.le_refl _) ?_; intro w1 hown1 hg1; have kc := HZ.out w1 _ _ hown1; have HO1 : Hid (∀ o, (w1.alloc o).ownsRow w.heap.size 58 6 u5 k (X k)) := (fun o => owns_below (owns_below hown (below_made hg1)) (below_box o)); have HB1 : Hid (Below w.heap.size w w1) := hbel.trans ((below_made hg1).mono hbel.size); clear hown hbel hown1 hg1)
        | (at_builtin; refine wpList_append_recs (by rfl) _ _ rfl w.heap.size w _ _ _ rfl (HO1.out _) (HB1.out.alloc HB1.out.size _) (Nat.le_trans HB1.out.size (by simp)) _ 1 [R] rfl (HRN.out _) (fun c => by cases c) (by simp; omega) ?_; intro v2 w2 hown2 hb2))
      exact ⟨⟨k + 1, by omega, by go_num, by rw [HXk.out]; exact hown2, hb2⟩, by simp [intOf]; omega⟩
    · obtain rfl : n = k := by omega
      obtain ⟨a0, c0, rfl, hr0, hn0⟩ := HRR.out _ _ hown
      have HR0 : Hid (RRow wr a0 RS) := hr0
      have HB0 : Hid (Below w.heap.size w wr) := hbel
      clear hown hr0 hbel HRR HZ HO0 HRN HL2 hlt hk
      have hk0 : ((n : Int) == 0) = false := by simp; omega
      have hk1 : ¬ (100 : Int) < (n : Int) := by omega
      have hk2 : decide ((100 : Int) < (n : Int)) = false := decide_eq_false hk1
      obtain ⟨E1, HE1⟩ : ∃ E1 : Nat, Hid (4 + m = E1) := ⟨_, rfl⟩
      have q1 : IntKind.i64.wrap (4 + (m : Int)) = (E1 : Int) := by have := HE1.out; rw [IntKind.wrap_i64]; omega
      obtain ⟨E, HE⟩ : ∃ E : Nat, Hid (eachN m = E) := ⟨_, rfl⟩
      have hEb : E ≤ 2005 := by rw [← HE.out]; unfold eachN; split <;> omega
      have hme : (n : Int) * (E : Int) = ((n * E : Nat) : Int) := by simp
      have hmb : n * E ≤ 110 * 2005 := Nat.mul_le_mul hn hEb
      rw [HE.out] at hb HEN
      obtain ⟨M, HM⟩ : ∃ M : Nat, Hid (n * E = M) := ⟨_, rfl⟩
      rw [HM.out] at hme hmb hb HEN
      have q3 : IntKind.i64.wrap ((n : Int) * (E : Int)) = (M : Int) := by rw [hme, IntKind.wrap_i64]; omega
      have q4 : IntKind.i64.wrap (48 + (M : Int)) = 48 + (M : Int) := by rw [IntKind.wrap_i64]; omega
      clear hme
      have hbI : ¬ (6000 : Int) < 48 + (M : Int) := by omega
      have hcast : ((48 + M : Nat) : Int) = 48 + (M : Int) := by omega
      by_cases h128 : 128 ≤ m
      · have q2 : IntKind.i64.wrap ((E1 : Int) + 1) = (E : Int) := by have h1 := HE1.out; have h2 := HE.out; unfold eachN at h2; rw [if_pos h128] at h2; rw [IntKind.wrap_i64]; omega
        have h128I : (128 : Int) ≤ (m : Int) := by omega
        go_wp2_with (first
          | (go_at_call 23; refine (HF.out _ _ _ hn0 (Tab.below HT.out HB0.out) HR0.out).mono ?_; rintro e w3 ⟨a3, c3, rfl, hr3, hb3⟩; have HB3 : Hid (Below w.heap.size w w3) := HB0.out.trans (hb3.mono HB0.out.size); have HR3 : Hid (RRow w3 a3 QR) := hr3; clear hr3; clear hb3 HB0 HR0 hn0)
          | (go_at_call 13; refine (HEN.out _ _ _ (Tab.below HT.out (HB3.out.alloc HB3.out.size _)) (RRow.below HR3.out (below_box _))).mono ?_; rintro e w4 ⟨g4, rfl, ho4, hb4⟩; have HB4 : Hid (BxS w3 #[.int .i64 q0, .int .i64 (n : Int), .int .i64 q2', .int .i64 q3', .slice a3 n c3] w4) := BxS.below (BxS.new w3 _) hb4; clear hb4; have z1 : w4.cell? ⟨w3.heap.size, 1, none⟩ = some (.int .i64 (n : Int)) := (by rw [cell_of_row _ w3.heap.size 1 _ 24 (0, 0) HB4.out.box]; rfl))
          | (go_at_call 12; refine (HA.out _ (Tab.below HT.out (HB3.out.trans (HB4.out.bel.mono HB3.out.size)))).mono ?_; rintro e w9 ⟨rfl, hb9⟩; have HB9 : Hid (Below w.heap.size w w9) := (HB3.out.trans (HB4.out.bel.mono HB3.out.size)).trans (hb9.mono (HB3.out.trans (HB4.out.bel.mono HB3.out.size)).size)))
        go_ret
        exact ⟨rfl, HB9.out⟩
      · obtain rfl : E = E1 := by have h1 := HE1.out; have h2 := HE.out; unfold eachN at h2; rw [if_neg h128] at h2; omega
        have h128I : ¬ (128 : Int) ≤ (m : Int) := by omega
        go_wp2_with (first
          | (go_at_call 23; refine (HF.out _ _ _ hn0 (Tab.below HT.out HB0.out) HR0.out).mono ?_; rintro e w3 ⟨a3, c3, rfl, hr3, hb3⟩; have HB3 : Hid (Below w.heap.size w w3) := HB0.out.trans (hb3.mono HB0.out.size); have HR3 : Hid (RRow w3 a3 QR) := hr3; clear hr3; clear hb3 HB0 HR0 hn0)
          | (go_at_call 13; refine (HEN.out _ _ _ (Tab.below HT.out (HB3.out.alloc HB3.out.size _)) (RRow.below HR3.out (below_box _))).mono ?_; rintro e w4 ⟨g4, rfl, ho4, hb4⟩; have HB4 : Hid (BxS w3 #[.int .i64 q0, .int .i64 (n : Int), .int .i64 q2', .int .i64 q3', .slice a3 n c3] w4) := BxS.below (BxS.new w3 _) hb4; clear hb4; have z1 : w4.cell? ⟨w3.heap.size, 1, none⟩ = some (.int .i64 (n : Int)) := (by rw [cell_of_row _ w3.heap.size 1 _ 24 (0, 0) HB4.out.box]; rfl))
          | (go_at_call 12; refine (HA.out _ (Tab.below HT.out (HB3.out.trans (HB4.out.bel.mono HB3.out.size)))).mono ?_; rintro e w9 ⟨rfl, hb9⟩; have HB9 : Hid (Below w.heap.size w w9) := (HB3.out.trans (HB4.out.bel.mono HB3.out.size)).trans (hb9.mono (HB3.out.trans (HB4.out.bel.mono HB3.out.size)).size)))
        go_ret
        exact ⟨rfl, HB9.out⟩
set_option maxRecDepth 100000 in
theorem counts_out (x y : Int) (w : World) (ht : Tab w) (hc : ¬ (0 ≤ x ∧ x ≤ 110 ∧ 0 ≤ y ∧ y ≤ 2000)) :
    Calls Tryd.prog 10 #[.int .i64 x, .int .i64 y] w fun e w' => e = .returned (.bool true) ∧ Below w.heap.size w w' := by
  have HA : Hid (Calls Tryd.prog 12 #[] w fun e w' => e = .returned (.bool true) ∧ Below w.heap.size w w') := awake_any w ht
  by_cases h1 : x < 0
  · have d1 : decide (x < 0) = true := decide_eq_true h1
    clear hc
    go_enter Tryd.func10, Tryd.ntmps10
    go_wp2_with (go_at_call 12; refine Calls.mono HA.out ?_; rintro e w9 ⟨rfl, hb9⟩)
    go_ret
    exact ⟨rfl, hb9⟩
  · have d1 : decide (x < 0) = false := decide_eq_false h1
    by_cases h2 : 110 < x
    · have d2 : decide (110 < x) = true := decide_eq_true h2
      clear hc
      go_enter Tryd.func10, Tryd.ntmps10
      go_wp2_with (go_at_call 12; refine Calls.mono HA.out ?_; rintro e w9 ⟨rfl, hb9⟩)
      go_ret
      exact ⟨rfl, hb9⟩
    · have d2 : decide (110 < x) = false := decide_eq_false h2
      by_cases h3 : y < 0
      · have d3 : decide (y < 0) = true := decide_eq_true h3
        clear hc
        go_enter Tryd.func10, Tryd.ntmps10
        go_wp2_with (go_at_call 12; refine Calls.mono HA.out ?_; rintro e w9 ⟨rfl, hb9⟩)
        go_ret
        exact ⟨rfl, hb9⟩
      · have d3 : decide (y < 0) = false := decide_eq_false h3
        have h4 : 2000 < y := by omega
        have d4 : decide (2000 < y) = true := decide_eq_true h4
        clear hc
        go_enter Tryd.func10, Tryd.ntmps10
        go_wp2_with (go_at_call 12; refine Calls.mono HA.out ?_; rintro e w9 ⟨rfl, hb9⟩)
        go_ret
        exact ⟨rfl, hb9⟩
theorem batchCounts_walk (a0 a1 : Int) (w : World) (ht : Tab w) (w0 : (Lit.int .i64 a0).wf = true) (w1 : (Lit.int .i64 a1).wf = true) :
    Calls Tryd.prog 10 #[.int .i64 a0, .int .i64 a1] w fun e w' => e = .returned (.bool true) ∧ Below w.heap.size w w' := by
  by_cases hc : 0 ≤ a0 ∧ a0 ≤ 110 ∧ 0 ≤ a1 ∧ a1 ≤ 2000
  · obtain ⟨n, rfl⟩ : ∃ n : Nat, a0 = (n : Int) := ⟨a0.toNat, by omega⟩
    obtain ⟨m, rfl⟩ : ∃ m : Nat, a1 = (m : Int) := ⟨a1.toNat, by omega⟩
    by_cases h1 : n = 0 ∨ 100 < n
    · exact counts_arg n m w ht (by omega) (by omega) h1
    · by_cases hb : 6000 < 48 + n * eachN m
      · exact counts_big n m w ht (by omega) (by omega) (by omega) (by omega) hb
      · exact counts_fit n m w ht (by omega) (by omega) (by omega) (by omega) (by omega)
  · exact counts_out a0 a1 w ht hc
end Go.Proofs.YtgpeldmplkijlaaDoor
