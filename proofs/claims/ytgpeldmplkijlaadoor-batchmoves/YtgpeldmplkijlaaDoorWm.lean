/- The walk of BatchMoves. -/
import Derived.Test.YtgpeldmplkijlaaDoorZd
namespace Go.Proofs.YtgpeldmplkijlaaDoor
set_option linter.unusedSimpArgs false
set_option linter.unusedVariables false
open Go.RowKit
theorem moved_put (l : List Nat) (z : Nat) (h : 48 ≤ l.length) : putL l 0 8 true z = movedL l z := by
  have e1 : putL l 0 8 true z = [] ++ (lay 8 z ++ l.drop 8) := put_at (A := []) (B := l.take 8) 0 8 z (by simp) rfl (by rw [List.length_take]; omega)
  have e2 : putL (l.take 48) 0 8 true z = [] ++ (lay 8 z ++ (l.take 48).drop 8) := put_at (A := []) (B := (l.take 48).take 8) 0 8 z (by rw [List.nil_append, List.take_append_drop]) rfl (by rw [List.length_take, List.length_take]; omega)
  have e3 : (l.take 48).drop 8 ++ l.drop 48 = l.drop 8 := by
    conv => rhs; rw [← List.take_append_drop 48 l]
    rw [List.drop_append_of_le_length (by rw [List.length_take]; omega)]
  unfold movedL
  rw [e1, e2, List.nil_append, List.nil_append, List.append_assoc, e3]
theorem movedL_lt {l : List Nat} (h : ∀ i, l.getD i 0 < 256) (z : Nat) : ∀ i, (movedL l z).getD i 0 < 256 := by
  unfold movedL
  refine app_lt (putL_lt _ _ _ _ _ (lt_mem (fun x hx => mem_lt h x (List.mem_of_mem_take hx)))) (lt_mem (fun x hx => mem_lt h x (List.mem_of_mem_drop hx)))
set_option maxHeartbeats 800000 in
set_option maxRecDepth 100000 in
theorem mv_bad (a : Option Addr) (cap : Nat) (l : List Nat) (z : Int) (w : World) (b : Ba) (M E : Int) (hno : (E != 0) = true ∨ (E = 0 ∧ (M != (l.length : Int)) = true))
    (HD : Hid (Calls Tryd.prog 18 #[.slice a l.length cap] w fun e w' => ∃ a' c', e = .returned (.tuple #[bav b a' c', .int .i64 M, .int .i64 E]) ∧ Below w.heap.size w w')) :
    Calls Tryd.prog 21 #[.slice a l.length cap, .int .i64 z] w fun e w' => e = .returned (.tuple #[.slice none 0 0, .int .i64 10]) ∧ Below w.heap.size w w' := by
  obtain ⟨c0, c1, c2, c3, rs⟩ := b
  simp only [bav] at HD
  rcases hno with h | ⟨rfl, h⟩
  all_goals
    go_enter Tryd.func21, Tryd.ntmps21
    go_wp2_with (go_at_call 18; refine Calls.mono HD.out ?_; rintro e w1 ⟨a1, k1, rfl, hb1⟩; have HB1 : Hid (Below w.heap.size w w1) := hb1; clear hb1)
    go_ret2
    exact ⟨rfl, HB1.out.alloc HB1.out.size _⟩
set_option maxHeartbeats 800000 in
set_option maxRecDepth 100000 in
theorem rmv_bad (a : Option Addr) (cap : Nat) (l : List Nat) (z : Int) (w : World) (b : Ba) (M E : Int) (hno : (E != 0) = true ∨ (E = 0 ∧ (M != (l.length : Int)) = true))
    (HD : Hid (Calls Tryd.prog 19 #[.slice a l.length cap] w fun e w' => ∃ a' c', e = .returned (.tuple #[bav b a' c', .int .i64 M, .int .i64 E]) ∧ Below w.heap.size w w')) :
    Calls Tryd.prog 22 #[.slice a l.length cap, .int .i64 z] w fun e w' => e = .returned (.tuple #[.slice none 0 0, .int .i64 10]) ∧ Below w.heap.size w w' := by
  obtain ⟨c0, c1, c2, c3, rs⟩ := b
  simp only [bav] at HD
  rcases hno with h | ⟨rfl, h⟩
  all_goals
    go_enter Tryd.func22, Tryd.ntmps22
    go_wp2_with (go_at_call 19; refine Calls.mono HD.out ?_; rintro e w1 ⟨a1, k1, rfl, hb1⟩; have HB1 : Hid (Below w.heap.size w w1) := hb1; clear hb1)
    go_ret2
    exact ⟨rfl, HB1.out.alloc HB1.out.size _⟩
set_option maxHeartbeats 800000 in
set_option maxRecDepth 100000 in
theorem rmv_arg (a : Option Addr) (cap : Nat) (l : List Nat) (z : Int) (w : World) (b : Ba) (hz : z < 0 ∨ 1125899906842624 < z)
    (HD : Hid (Calls Tryd.prog 19 #[.slice a l.length cap] w fun e w' => ∃ a' c', e = .returned (.tuple #[bav b a' c', .int .i64 (l.length : Int), .int .i64 0]) ∧ Below w.heap.size w w')) :
    Calls Tryd.prog 22 #[.slice a l.length cap, .int .i64 z] w fun e w' => e = .returned (.tuple #[.slice none 0 0, .int .i64 1]) ∧ Below w.heap.size w w' := by
  obtain ⟨c0, c1, c2, c3, rs⟩ := b
  simp only [bav] at HD
  have hne : ((l.length : Int) != (l.length : Int)) = false := by simp
  by_cases h0 : z < 0
  · have h0d : decide (z < 0) = true := decide_eq_true h0
    clear hz
    go_enter Tryd.func22, Tryd.ntmps22
    go_wp2_with (go_at_call 19; refine Calls.mono HD.out ?_; rintro e w1 ⟨a1, k1, rfl, hb1⟩; have HB1 : Hid (Below w.heap.size w w1) := hb1; clear hb1)
    go_ret2
    exact ⟨rfl, HB1.out.alloc HB1.out.size _⟩
  · have h0d : decide (z < 0) = false := decide_eq_false h0
    have h1 : 1125899906842624 < z := by omega
    have h1d : decide (1125899906842624 < z) = true := decide_eq_true h1
    clear hz
    go_enter Tryd.func22, Tryd.ntmps22
    go_wp2_with (go_at_call 19; refine Calls.mono HD.out ?_; rintro e w1 ⟨a1, k1, rfl, hb1⟩; have HB1 : Hid (Below w.heap.size w w1) := hb1; clear hb1)
    go_ret2
    exact ⟨rfl, HB1.out.alloc HB1.out.size _⟩
set_option maxHeartbeats 800000 in
set_option maxRecDepth 100000 in
theorem rmv_ok (a : Option Addr) (cap : Nat) (l : List Nat) (z : Nat) (w : World) (b : Ba) (hz : z ≤ 1125899906842624) (hr : Row w a l) (hl2 : l.length ≤ 8000) (h48 : 48 ≤ l.length)
    (HD : Hid (Calls Tryd.prog 19 #[.slice a l.length cap] w fun e w' => ∃ a' c', e = .returned (.tuple #[bav b a' c', .int .i64 (l.length : Int), .int .i64 0]) ∧ Below w.heap.size w w')) :
    Calls Tryd.prog 22 #[.slice a l.length cap, .int .i64 (z : Int)] w fun e w' => ∃ a' c', e = .returned (.tuple #[.slice a' (movedL l z).length c', .int .i64 0]) ∧ Row w' a' (movedL l z) ∧ Below w.heap.size w w' := by
  obtain ⟨c0, c1, c2, c3, rs⟩ := b
  simp only [bav] at HD
  have hne : ((l.length : Int) != (l.length : Int)) = false := by simp
  have h0 : ¬ (z : Int) < 0 := by omega
  have h1 : ¬ (1125899906842624 : Int) < (z : Int) := by omega
  have h1d : decide ((1125899906842624 : Int) < (z : Int)) = false := decide_eq_false h1
  have hw : IntKind.u64.wrap (z : Int) = (z : Int) := by rw [IntKind.wrap_u64]; omega
  have HP : Hid (∀ y, Row y a l → Calls Tryd.prog 44 #[.slice a l.length cap, .int .i64 0, .int .i64 8, .bool true, .int .u64 (z : Int)] y fun e w' => (∃ g' cap', e = .returned (.tuple #[.slice (some ⟨g', 0, none⟩) l.length cap', .bool true]) ∧ Own y.heap.size w' g' cap' (movedL l z)) ∧ Below y.heap.size y w') := by
    intro y hy
    have h3 := rput_yes a cap l 0 8 true z y hy (by omega) (by decide) (by decide) (by omega) (by omega)
    rw [moved_put l z h48] at h3
    exact h3
  have HLT : Hid (∀ i, (movedL l z).getD i 0 < 256) := movedL_lt hr.lt z
  have HLN : Hid ((movedL l z).length = l.length) := movedL_len l z
  have HROW : Hid (Row w a l) := hr
  generalize movedL l z = Mv at *
  clear hr hl2 h48 hz
  go_enter Tryd.func22, Tryd.ntmps22
  go_wp2_with (first
    | (go_at_call 19; refine Calls.mono HD.out ?_; rintro e w1 ⟨a1, k1, rfl, hb1⟩; have HB1 : Hid (Below w.heap.size w w1) := hb1; clear hb1)
    | (go_at_call 44; refine (HP.out _ (Row.below HROW.out (HB1.out.alloc HB1.out.size _))).mono ?_; rintro e w2 ⟨⟨g2, k2, rfl, ho2⟩, hb2⟩; have HB2 : Hid (Below w.heap.size w w2) := (HB1.out.alloc HB1.out.size _).trans (hb2.mono (by have := HB1.out.size; simp; omega)); have HO2 : Hid (Row w2 (some ⟨g2, 0, none⟩) Mv) := ho2.row HLT.out; clear hb2 ho2))
  go_ret2
  exact ⟨some ⟨g2, 0, none⟩, k2, by rw [HLN.out]; rfl, HO2.out, HB2.out⟩
set_option maxRecDepth 100000 in
theorem moves_long (a : Option Addr) (cap n : Nat) (z : Int) (w : World) (ht : Tab w) (hn : 8000 < n) :
    Calls Tryd.prog 5 #[.slice a n cap, .int .i64 z] w fun e w' => e = .returned (.bool true) ∧ Below w.heap.size w w' := by
  have HA : Hid (Calls Tryd.prog 12 #[] w fun e w' => e = .returned (.bool true) ∧ Below w.heap.size w w') := awake_any w ht
  have hnI : (8000 : Int) < (n : Int) := by omega
  go_enter Tryd.func5, Tryd.ntmps5
  go_wp2_with (go_at_call 12; refine Calls.mono HA.out ?_; rintro e w9 ⟨rfl, hb9⟩)
  go_ret
  exact ⟨rfl, hb9⟩
theorem owns_all {w : World} {B : Nat} {v : Value} {l : List Nat} (h : w.ownsRow B 5 1 v l.length (cv l)) (hb : ∀ i, l.getD i 0 < 256) : ∃ a c, v = .slice a l.length c ∧ Row w a l ∧ l.length ≤ c ∧ c ≤ maxLen := by
  rcases h.2 with ⟨rfl, h0⟩ | ⟨g, cap, cur, rfl, hB, hg, hle, hm, _, _⟩
  · exact ⟨none, 0, by rw [h0], fun i hi => by omega, by omega, by unfold maxLen; omega⟩
  · refine ⟨_, cap, rfl, ?_, hle, hm⟩
    intro i hi
    refine ⟨g, 0, rfl, ?_, hb i⟩
    have := h.cells (g := g) rfl i _ (cv_get l i hi)
    simpa [Addr.add_lit] using this
set_option maxHeartbeats 1600000 in
set_option maxRecDepth 100000 in
theorem moves_in (a : Option Addr) (cap : Nat) (l : List Nat) (z : Int) (w : World) (ht : Tab w) (hr : Row w a l) (hn : l.length ≤ 8000) (hnn : a = none → cap = 0) (L : List Nat) (E : Int) (hL : L.length ≤ maxLen)
    (HD1 : Hid (∀ x a1 c1, Tab x → Row x a1 l → l.length ≤ c1 → c1 ≤ maxLen → Calls Tryd.prog 21 #[.slice a1 l.length c1, .int .i64 z] x fun e w' => ∃ a' c', e = .returned (.tuple #[.slice a' L.length c', .int .i64 E]) ∧ Row w' a' L ∧ Below x.heap.size x w'))
    (HD2 : Hid (∀ x, Tab x → Row x a l → Calls Tryd.prog 22 #[.slice a l.length cap, .int .i64 z] x fun e w' => ∃ a' c', e = .returned (.tuple #[.slice a' L.length c', .int .i64 E]) ∧ Row w' a' L ∧ Below x.heap.size x w')) :
    Calls Tryd.prog 5 #[.slice a l.length cap, .int .i64 z] w fun e w' => e = .returned (.bool true) ∧ Below w.heap.size w w' := by
  have HA : Hid (∀ x, Tab x → Calls Tryd.prog 12 #[] x fun e w' => e = .returned (.bool true) ∧ Below x.heap.size x w') := fun x h => awake_any x h
  have HBY : Hid (∀ m : List Nat, m.length ≤ maxLen → ∀ x p k q j, Row x p m → Row x q m → Calls Tryd.prog 15 #[.slice p m.length k, .slice q m.length j] x fun e w' => e = .returned (.bool true) ∧ ∃ n, w' = x.drewN n) := by
    intro m hm x p k q j h1 h2
    have := bytes_any p k m q j m x h1 h2 hm hm
    rw [decide_eq_true rfl] at this
    exact this
  have HB1' : Hid _ := HBY.out L hL
  have HB2' : Hid _ := HBY.out l (by unfold maxLen; omega)
  have HLT : Hid (∀ i, l.getD i 0 < 256) := hr.lt
  have HROW : Hid (Row w a l) := hr
  have HT : Hid (Tab w) := ht
  have hnI : ¬ (8000 : Int) < (l.length : Int) := by omega
  have hnd : decide ((8000 : Int) < (l.length : Int)) = false := decide_eq_false hnI
  have hE : (E == E) = true := by simp
  clear hr ht HBY
  have tok : True := trivial
  go_enter Tryd.func5, Tryd.ntmps5
  go_wp2_with (first
    | (at_builtin; have _t := tok; refine wpList_append_row (by rfl) _ _ rfl w.heap.size w _ 0 [] rfl (World.ownsRow_nil _ _ _ _) (Below.refl _ _) (Nat.le_refl _) a cap l rfl HROW.out hnn (by omega) ?_; clear tok _t; intro v1 w1 hown1 hb1; rw [Nat.zero_add, List.nil_append] at hown1; obtain ⟨a1, c1, rfl, hr1, hc1, hm1⟩ := owns_all hown1 HLT.out; have HB1 : Hid (Below w.heap.size w w1) := hb1; have HR1 : Hid (Row w1 a1 l) := hr1; clear hown1 hb1 hr1)
    | (go_at_call 21; refine (HD1.out _ _ _ (Tab.below HT.out HB1.out) HR1.out hc1 hm1).mono ?_; rintro e w2 ⟨a2, c2, rfl, hr2, hb2⟩; have HB2 : Hid (Below w.heap.size w w2) := HB1.out.trans (hb2.mono HB1.out.size); have HR2 : Hid (Row w2 a2 L ∧ Row w2 a1 l) := ⟨hr2, Row.below HR1.out hb2⟩; clear hr2 hb2 HR1 HB1)
    | (go_at_call 22; refine (HD2.out _ (Tab.below HT.out HB2.out) (Row.below HROW.out HB2.out)).mono ?_; rintro e w3 ⟨a3, c3, rfl, hr3, hb3⟩; have HB3 : Hid (Below w.heap.size w w3) := HB2.out.trans (hb3.mono HB2.out.size); have HR3 : Hid (Row w3 a3 L ∧ Row w3 a2 L ∧ Row w3 a1 l) := ⟨hr3, Row.below HR2.out.1 hb3, Row.below HR2.out.2 hb3⟩; clear hr3 hb3 HR2 HB2; have tk2 : True := trivial)
    | (go_at_call 15; have _t := tk2; refine (HB1'.out _ _ _ _ _ HR3.out.2.1 HR3.out.1).mono ?_; clear tk2 _t; rintro e w4 ⟨rfl, n4, hw4⟩; have HB4 : Hid (Below w.heap.size w w4) := (by rw [hw4]; exact below_drewN HB3.out _); have HR4 : Hid (Row w4 a1 l) := (by rw [hw4]; exact Row.drewN HR3.out.2.2 _); clear hw4)
    | (go_at_call 15; refine (HB2'.out _ _ _ _ _ HR4.out (Row.below HROW.out HB4.out)).mono ?_; rintro e w5 ⟨rfl, n5, hw5⟩; have HB5 : Hid (Below w.heap.size w w5) := (by rw [hw5]; exact below_drewN HB4.out _); clear hw5)
    | (go_at_call 12; refine (HA.out _ (Tab.below HT.out HB5.out)).mono ?_; rintro e w9 ⟨rfl, hb9⟩; have HB9 : Hid (Below w.heap.size w w9) := HB5.out.trans (hb9.mono HB5.out.size)))
  go_ret
  exact ⟨rfl, HB9.out⟩
theorem batchMoves_walk (a0 : Option Addr) (cap0 : Nat) (l0 : List Nat) (a1 : Int) (w : World) (ht : Tab w) (w0 : Row w a0 l0) (m0 : l0.length ≤ maxLen) (c0 : l0.length ≤ cap0) (n0 : a0 = none → cap0 = 0) (x0 : cap0 ≤ maxLen) (w1 : (Lit.int .i64 a1).wf = true) :
    Calls Tryd.prog 5 #[.slice a0 l0.length cap0, .int .i64 a1] w fun e w' => e = .returned (.bool true) ∧ Below w.heap.size w w' := by
  by_cases h : 8000 < l0.length
  · exact moves_long a0 cap0 l0.length a1 w ht h
  · have h8 : l0.length ≤ 8000 := Nat.not_lt.1 h
    have h10 : l0.length ≤ 100000 := Nat.le_trans h8 (by decide)
    by_cases hok : OkB l0
    · by_cases hn : lenN l0 = l0.length
      · have hd : ∀ x, Tab x → Row x a0 l0 → Calls Tryd.prog 19 #[.slice a0 l0.length cap0] x fun e w' => ∃ a' c', e = .returned (.tuple #[bav (bOf l0) a' c', .int .i64 (l0.length : Int), .int .i64 0]) ∧ Below x.heap.size x w' := by
          intro x t1 t2
          refine (rdb_any a0 cap0 l0 x t1 t2 c0 x0 h8).mono ?_
          rintro e w' ⟨q, _, hb⟩
          obtain ⟨a', c', rfl, _⟩ := q hok
          exact ⟨a', c', by rw [hn]; rfl, hb⟩
        by_cases hz : baseB a1 = true
        · have hz' : 0 ≤ a1 ∧ a1 ≤ 1125899906842624 := by unfold baseB at hz; exact of_decide_eq_true hz
          obtain ⟨z, rfl⟩ := Int.eq_ofNat_of_zero_le hz'.1
          have hzz : z ≤ 1125899906842624 := by omega
          have hlt := w0.lt
          refine moves_in a0 cap0 l0 (z : Int) w ht w0 h8 n0 (movedL l0 z) 0 (by rw [movedL_len]; exact m0) (fun x b1 k1 t1 t2 t3 t4 => ?_) (fun x t1 t2 => ?_)
          · refine (move_ok b1 k1 l0 z x t1 t2 t3 t4 h10 hok hn hzz).mono ?_
            rintro e w' ⟨g, rfl, ho, hb⟩
            exact ⟨_, _, rfl, ho.row (movedL_lt hlt z), hb⟩
          · exact rmv_ok a0 cap0 l0 z x (bOf l0) hzz t2 h8 hok.l48 (hd x t1 t2)
        · have hz2 : baseB a1 = false := by simpa using hz
          have hz3 : a1 < 0 ∨ 1125899906842624 < a1 := by
            unfold baseB at hz2
            have := of_decide_eq_false hz2
            omega
          refine moves_in a0 cap0 l0 a1 w ht w0 h8 n0 [] 1 (by simp) (fun x b1 k1 t1 t2 t3 t4 => ?_) (fun x t1 t2 => ?_)
          · refine (move_arg b1 k1 l0 a1 x t1 t2 t3 t4 h10 hok hn hz2).mono ?_
            rintro e w' ⟨rfl, hb⟩
            exact ⟨none, 0, rfl, Row.nil _ _, hb⟩
          · refine (rmv_arg a0 cap0 l0 a1 x (bOf l0) hz3 (hd x t1 t2)).mono ?_
            rintro e w' ⟨rfl, hb⟩
            exact ⟨none, 0, rfl, Row.nil _ _, hb⟩
      · have hne : (((lenN l0 : Nat) : Int) != (l0.length : Int)) = true := by
          rw [bne_iff_ne]
          intro h2
          exact hn (Int.ofNat.inj h2)
        refine moves_in a0 cap0 l0 a1 w ht w0 h8 n0 [] 10 (by simp) (fun x b1 k1 t1 t2 t3 t4 => ?_) (fun x t1 t2 => ?_)
        · refine (mv_bad b1 k1 l0 a1 x (bOf l0) ((lenN l0 : Nat) : Int) 0 (.inr ⟨rfl, hne⟩) ?_).mono ?_
          · refine (bdecode_any b1 k1 l0 x t1 t2 t3 t4 h10).mono ?_
            rintro e w' ⟨q, _, hb⟩
            obtain ⟨a', c', rfl, _⟩ := q hok
            exact ⟨a', c', rfl, hb⟩
          · rintro e w' ⟨rfl, hb⟩
            exact ⟨none, 0, rfl, Row.nil _ _, hb⟩
        · refine (rmv_bad a0 cap0 l0 a1 x (bOf l0) ((lenN l0 : Nat) : Int) 0 (.inr ⟨rfl, hne⟩) ?_).mono ?_
          · refine (rdb_any a0 cap0 l0 x t1 t2 c0 x0 h8).mono ?_
            rintro e w' ⟨q, _, hb⟩
            obtain ⟨a', c', rfl, _⟩ := q hok
            exact ⟨a', c', rfl, hb⟩
          · rintro e w' ⟨rfl, hb⟩
            exact ⟨none, 0, rfl, Row.nil _ _, hb⟩
    · refine moves_in a0 cap0 l0 a1 w ht w0 h8 n0 [] 10 (by simp) (fun x b1 k1 t1 t2 t3 t4 => ?_) (fun x t1 t2 => ?_)
      · refine (mv_bad b1 k1 l0 a1 x bz 0 10 (.inl (by decide)) ?_).mono ?_
        · refine (bdecode_any b1 k1 l0 x t1 t2 t3 t4 h10).mono ?_
          rintro e w' ⟨_, q, hb⟩
          exact ⟨none, 0, q hok, hb⟩
        · rintro e w' ⟨rfl, hb⟩
          exact ⟨none, 0, rfl, Row.nil _ _, hb⟩
      · refine (rmv_bad a0 cap0 l0 a1 x bz 0 10 (.inl (by decide)) ?_).mono ?_
        · refine (rdb_any a0 cap0 l0 x t1 t2 c0 x0 h8).mono ?_
          rintro e w' ⟨_, q, hb⟩
          exact ⟨none, 0, q hok, hb⟩
        · rintro e w' ⟨rfl, hb⟩
          exact ⟨none, 0, rfl, Row.nil _ _, hb⟩
end Go.Proofs.YtgpeldmplkijlaaDoor
