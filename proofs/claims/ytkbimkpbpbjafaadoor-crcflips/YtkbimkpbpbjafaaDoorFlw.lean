/- The walk of CrcFlips: true for every argument. -/
import Derived.Test.YtkbimkpbpbjafaaDoorFlm
import Derived.Test.YtkbimkpbpbjafaaDoorPcs
import Derived.Test.YtkbimkpbpbjafaaDoorApp
namespace Go.Proofs.YtkbimkpbpbjafaaDoor
set_option linter.unusedSimpArgs false
set_option linter.unusedVariables false
open Go.RowKit
theorem tmod_abs (a : Int) (n : Nat) (h : 0 < n) : ∃ p : Nat, p < n ∧ ((0 ≤ a.tmod n ∧ a.tmod n = p) ∨ (a.tmod n < 0 ∧ a.tmod n = -(p : Int))) := by
  have h1 : (a.tmod n).natAbs < n := by rw [Int.natAbs_tmod]; exact Nat.mod_lt _ (by simpa using h)
  refine ⟨(a.tmod n).natAbs, h1, ?_⟩
  omega
theorem ne_bool {a b : Nat} {c : Bool} (h : a ≠ b ↔ c = true) : (((a : Int) != (b : Int)) == c) = true := by
  have e : ((a : Int) != (b : Int)) = c := by
    rw [Bool.eq_iff_iff, bne_iff_ne, ← h]
    constructor
    · intro x y; exact x (by rw [y])
    · intro x y; exact x (by omega)
  rw [e]; simp
set_option maxRecDepth 100000 in
set_option maxHeartbeats 800000 in
theorem crcFlips_walk (a0 : Option Addr) (cap0 : Nat) (l0 : List Nat) (a1 : Int) (a2 : Int) (w : World) (ht : Tab w) (w0 : Row w a0 l0) (m0 : l0.length ≤ maxLen) (c0 : l0.length ≤ cap0) (n0 : a0 = none → cap0 = 0) (w1 : (Lit.int .i64 a1).wf = true) (w2 : (Lit.int .u32 a2).wf = true) :
    Calls Tryd.prog 6 #[.slice a0 l0.length cap0, .int .i64 a1, .int .u32 a2] w fun e w' => e = .returned (.bool true) ∧ Below w.heap.size w w' := by
  clear c0
  obtain ⟨b1, b2⟩ := bdu32 w2
  obtain ⟨b3, b4⟩ := bd64 w1
  clear w1 w2
  obtain ⟨X, rfl⟩ := Int.eq_ofNat_of_zero_le b1
  have hX : X < 4294967296 := by omega
  clear b1 b2
  have hM0 := m0
  unfold maxLen at hM0
  by_cases h3 : 3000 < l0.length
  · have h3I : 3000 < (l0.length : Int) := by omega
    go_enter Tryd.func6, Tryd.ntmps6
    go_wp2_with (go_at_call 9; refine (awake_any _ ht).mono ?_; rintro e w' ⟨rfl, hb⟩)
    go_ret
    exact ⟨rfl, by assumption⟩
  have h3I : ¬ 3000 < (l0.length : Int) := by omega
  by_cases h4 : l0.length = 0
  · have h4I : ((l0.length : Int) == 0) = true := by rw [beq_iff_eq]; omega
    have HE : Hid (l0.length = 0) := h4
    clear h4
    go_enter Tryd.func6, Tryd.ntmps6
    go_wp2_with (go_at_call 9; refine (awake_any _ ht).mono ?_; rintro e w' ⟨rfl, hb⟩)
    go_ret
    exact ⟨rfl, by assumption⟩
  have h4I : ((l0.length : Int) == 0) = false := by rw [beq_eq_false_iff_ne]; omega
  by_cases h5 : X = 0
  · have h5I : ((X : Int) == 0) = true := by rw [beq_iff_eq]; omega
    have HE : Hid (X = 0) := h5
    clear h5
    go_enter Tryd.func6, Tryd.ntmps6
    go_wp2_with (go_at_call 9; refine (awake_any _ ht).mono ?_; rintro e w' ⟨rfl, hb⟩)
    go_ret
    exact ⟨rfl, by assumption⟩
  have h5I : ((X : Int) == 0) = false := by rw [beq_eq_false_iff_ne]; omega
  obtain ⟨p, hp, hcase⟩ := tmod_abs a1 l0.length (by omega)
  have hnil := World.ownsRow_nil w w.heap.size 5 1
  have hbel0 := Below.refl w.heap.size w
  have hl0 : 0 + l0.length ≤ 100000 := by omega
  have hpos : 0 < l0.length := by omega
  clear h4 h5
  have HBD2 : Hid (∀ {k cur ch}, FAt l0 p X k cur ch → ∀ i, cur.getD i 0 < 256) := by
    intro k cur ch hat i
    by_cases hi : i < l0.length
    · rw [hat.at' i hi]
      obtain ⟨_, _, _, _, hb⟩ := w0 i hi
      refine Nat.xor_lt_two_pow (n := 8) hb ?_
      split
      · exact dg_lt _ _
      · decide
    · rw [getD_out _ _ (by rw [hat.len]; omega)]; omega
  have HBD : Hid (∀ {k cur ch}, FAt l0 p X k cur ch → ∀ i, i < l0.length → cur.getD i 0 < 256) := fun h i _ => HBD2.out h i
  rcases hcase with ⟨q1, q2⟩ | ⟨q1, q2⟩
  · go_enter Tryd.func6, Tryd.ntmps6
    go_wp2_with (at_builtin; refine wpList_append_row rfl (.tmp 32) (.tmp 33) rfl w.heap.size w _ 0 [] rfl hnil hbel0 (Nat.le_refl _) a0 cap0 l0 rfl w0 n0 hl0 ?_; intro v1 u1 hown1 hb1; rw [Nat.zero_add, List.nil_append] at hown1; obtain ⟨g, cap, rfl, hown⟩ := owns_some hown1 hpos; clear hown1)
    go_loopw [8, 9] (fun c i wr => ∃ (k : Nat) (cur : List Nat) (ch : Bool), k ≤ 4 ∧ p + k ≤ l0.length ∧ c = .bool ch ∧ i = .int .i64 k ∧ FAt l0 p X k cur ch ∧ Own w.heap.size wr g cap cur ∧ Below w.heap.size w wr) (fun _ i _ => 4 - (intOf i).toNat)
    case atStart => exact ⟨0, l0, false, by omega, by omega, rfl, rfl, FAt.start l0 p X, hown, hb1⟩
    case round =>
      clear hnil hbel0 hb1 hown q1 q2
      obtain ⟨k, cur, ch, hk, hpk, rfl, rfl, hat, hown, hbel⟩ := hrel
      by_cases hend : k < 4 ∧ p + k < l0.length
      · obtain ⟨e4, e5⟩ := hend
        have HN : Hid (FAt l0 p X (k + 1) (cur.set (p + k) (cur.getD (p + k) 0 ^^^ dg X k)) (ch || decide (dg X k ≠ 0))) := hat.step e5
        have hcl : cur.getD (p + k) 0 < 256 := HBD.out hat (p + k) e5
        have hcell := hown.cell (p + k) (by rw [hat.len]; exact e5)
        have hfree := hown.free (p + k)
        have hge := hown.ge
        have hd := byte_at X k
        have hdl := dg_lt X k
        have e4I : (k : Int) < 4 := by omega
        have e5I : (p : Int) + k < (l0.length : Int) := by omega
        have HLn : Hid (cur.length = l0.length) := hat.len
        clear hat
        generalize dg X k = d at *
        generalize cur.getD (p + k) 0 = c at *
        have hx := u8_xor_nat c d hcl hdl
        obtain ⟨y, Hy⟩ : ∃ y, Hid (c ^^^ d = y) := ⟨_, rfl⟩
        rw [Hy.out] at hx HN
        cases ch
        · by_cases hd0 : d = 0
          · have hne : ((d : Int) != 0) = false := by rw [bne_eq_false_iff_eq]; omega
            have HN2 : Hid (FAt l0 p X (k + 1) (cur.set (p + k) y) false) := by show FAt _ _ _ _ _ _; have := HN.out; simpa [hd0] using this
            clear HN hd0
            go_wp2
            exact ⟨⟨k + 1, cur.set (p + k) y, false, by omega, by omega, rfl, by go_num, HN2.out, hown.store _ _, hbel.setCell hge.1 _⟩, by simp [intOf]; omega⟩
          · have hne : ((d : Int) != 0) = true := by rw [bne_iff_ne]; omega
            have HN2 : Hid (FAt l0 p X (k + 1) (cur.set (p + k) y) true) := by show FAt _ _ _ _ _ _; have := HN.out; simpa [hd0] using this
            clear HN hd0
            go_wp2
            exact ⟨⟨k + 1, cur.set (p + k) y, true, by omega, by omega, rfl, by go_num, HN2.out, hown.store _ _, hbel.setCell hge.1 _⟩, by simp [intOf]; omega⟩
        · have HN2 : Hid (FAt l0 p X (k + 1) (cur.set (p + k) y) true) := HN.out
          clear HN
          go_wp2
          exact ⟨⟨k + 1, cur.set (p + k) y, true, by omega, by omega, rfl, by go_num, HN2.out, hown.store _ _, hbel.setCell hge.1 _⟩, by simp [intOf]; omega⟩
      · have hS := ne_bool (hat.sums hpk hk)
        have hrow := hown.row (HBD2.out hat)
        have HLn : Hid (cur.length = l0.length) := hat.len
        have hmc : cur.length ≤ maxLen := by rw [HLn.out]; exact m0
        have r0 := w0.below hbel
        have ht1 := ht.below hbel
        have K1 := sum_any (some ⟨g, 0, none⟩) cap cur wr ht1 hrow hmc
        rw [HLn.out] at K1
        have HK1 : Hid _ := K1
        have HK2 : Hid _ := sum_any a0 cap0 l0 wr ht1 r0 m0
        clear K1 hat hrow
        generalize P.sum cur = S1 at *
        generalize P.sum l0 = S0 at *
        have tok1 : True := trivial
        by_cases e4 : k < 4
        · have e5 : ¬ (p : Int) + k < (l0.length : Int) := by omega
          have e4I : (k : Int) < 4 := by omega
          go_wp2_with (first
            | (go_at_call 10; have _t := tok1; refine Calls.mono HK1.out ?_; clear tok1 _t; rintro e v2 ⟨rfl, hw⟩; subst v2)
            | (go_at_call 10; refine Calls.mono HK2.out ?_; rintro e v2 ⟨rfl, hw⟩; subst v2)
            | (go_at_call 9; refine (awake_any _ ht1).mono ?_; rintro e v6 ⟨rfl, hb1⟩; have hbel : Below w.heap.size w v6 := hbel.trans (hb1.mono hbel.size); clear hb1))
          go_ret
          exact ⟨rfl, hbel⟩
        · have e4I : ¬ (k : Int) < 4 := by omega
          clear hend
          go_wp2_with (first
            | (go_at_call 10; have _t := tok1; refine Calls.mono HK1.out ?_; clear tok1 _t; rintro e v2 ⟨rfl, hw⟩; subst v2)
            | (go_at_call 10; refine Calls.mono HK2.out ?_; rintro e v2 ⟨rfl, hw⟩; subst v2)
            | (go_at_call 9; refine (awake_any _ ht1).mono ?_; rintro e v6 ⟨rfl, hb1⟩; have hbel : Below w.heap.size w v6 := hbel.trans (hb1.mono hbel.size); clear hb1))
          go_ret
          exact ⟨rfl, hbel⟩
  · go_enter Tryd.func6, Tryd.ntmps6
    go_wp2_with (at_builtin; refine wpList_append_row rfl (.tmp 32) (.tmp 33) rfl w.heap.size w _ 0 [] rfl hnil hbel0 (Nat.le_refl _) a0 cap0 l0 rfl w0 n0 hl0 ?_; intro v1 u1 hown1 hb1; rw [Nat.zero_add, List.nil_append] at hown1; obtain ⟨g, cap, rfl, hown⟩ := owns_some hown1 hpos; clear hown1)
    go_loopw [8, 9] (fun c i wr => ∃ (k : Nat) (cur : List Nat) (ch : Bool), k ≤ 4 ∧ p + k ≤ l0.length ∧ c = .bool ch ∧ i = .int .i64 k ∧ FAt l0 p X k cur ch ∧ Own w.heap.size wr g cap cur ∧ Below w.heap.size w wr) (fun _ i _ => 4 - (intOf i).toNat)
    case atStart => exact ⟨0, l0, false, by omega, by omega, rfl, rfl, FAt.start l0 p X, hown, hb1⟩
    case round =>
      clear hnil hbel0 hb1 hown q1 q2
      obtain ⟨k, cur, ch, hk, hpk, rfl, rfl, hat, hown, hbel⟩ := hrel
      by_cases hend : k < 4 ∧ p + k < l0.length
      · obtain ⟨e4, e5⟩ := hend
        have HN : Hid (FAt l0 p X (k + 1) (cur.set (p + k) (cur.getD (p + k) 0 ^^^ dg X k)) (ch || decide (dg X k ≠ 0))) := hat.step e5
        have hcl : cur.getD (p + k) 0 < 256 := HBD.out hat (p + k) e5
        have hcell := hown.cell (p + k) (by rw [hat.len]; exact e5)
        have hfree := hown.free (p + k)
        have hge := hown.ge
        have hd := byte_at X k
        have hdl := dg_lt X k
        have e4I : (k : Int) < 4 := by omega
        have e5I : (p : Int) + k < (l0.length : Int) := by omega
        have HLn : Hid (cur.length = l0.length) := hat.len
        clear hat
        generalize dg X k = d at *
        generalize cur.getD (p + k) 0 = c at *
        have hx := u8_xor_nat c d hcl hdl
        obtain ⟨y, Hy⟩ : ∃ y, Hid (c ^^^ d = y) := ⟨_, rfl⟩
        rw [Hy.out] at hx HN
        cases ch
        · by_cases hd0 : d = 0
          · have hne : ((d : Int) != 0) = false := by rw [bne_eq_false_iff_eq]; omega
            have HN2 : Hid (FAt l0 p X (k + 1) (cur.set (p + k) y) false) := by show FAt _ _ _ _ _ _; have := HN.out; simpa [hd0] using this
            clear HN hd0
            go_wp2
            exact ⟨⟨k + 1, cur.set (p + k) y, false, by omega, by omega, rfl, by go_num, HN2.out, hown.store _ _, hbel.setCell hge.1 _⟩, by simp [intOf]; omega⟩
          · have hne : ((d : Int) != 0) = true := by rw [bne_iff_ne]; omega
            have HN2 : Hid (FAt l0 p X (k + 1) (cur.set (p + k) y) true) := by show FAt _ _ _ _ _ _; have := HN.out; simpa [hd0] using this
            clear HN hd0
            go_wp2
            exact ⟨⟨k + 1, cur.set (p + k) y, true, by omega, by omega, rfl, by go_num, HN2.out, hown.store _ _, hbel.setCell hge.1 _⟩, by simp [intOf]; omega⟩
        · have HN2 : Hid (FAt l0 p X (k + 1) (cur.set (p + k) y) true) := HN.out
          clear HN
          go_wp2
          exact ⟨⟨k + 1, cur.set (p + k) y, true, by omega, by omega, rfl, by go_num, HN2.out, hown.store _ _, hbel.setCell hge.1 _⟩, by simp [intOf]; omega⟩
      · have hS := ne_bool (hat.sums hpk hk)
        have hrow := hown.row (HBD2.out hat)
        have HLn : Hid (cur.length = l0.length) := hat.len
        have hmc : cur.length ≤ maxLen := by rw [HLn.out]; exact m0
        have r0 := w0.below hbel
        have ht1 := ht.below hbel
        have K1 := sum_any (some ⟨g, 0, none⟩) cap cur wr ht1 hrow hmc
        rw [HLn.out] at K1
        have HK1 : Hid _ := K1
        have HK2 : Hid _ := sum_any a0 cap0 l0 wr ht1 r0 m0
        clear K1 hat hrow
        generalize P.sum cur = S1 at *
        generalize P.sum l0 = S0 at *
        have tok1 : True := trivial
        by_cases e4 : k < 4
        · have e5 : ¬ (p : Int) + k < (l0.length : Int) := by omega
          have e4I : (k : Int) < 4 := by omega
          go_wp2_with (first
            | (go_at_call 10; have _t := tok1; refine Calls.mono HK1.out ?_; clear tok1 _t; rintro e v2 ⟨rfl, hw⟩; subst v2)
            | (go_at_call 10; refine Calls.mono HK2.out ?_; rintro e v2 ⟨rfl, hw⟩; subst v2)
            | (go_at_call 9; refine (awake_any _ ht1).mono ?_; rintro e v6 ⟨rfl, hb1⟩; have hbel : Below w.heap.size w v6 := hbel.trans (hb1.mono hbel.size); clear hb1))
          go_ret
          exact ⟨rfl, hbel⟩
        · have e4I : ¬ (k : Int) < 4 := by omega
          clear hend
          go_wp2_with (first
            | (go_at_call 10; have _t := tok1; refine Calls.mono HK1.out ?_; clear tok1 _t; rintro e v2 ⟨rfl, hw⟩; subst v2)
            | (go_at_call 10; refine Calls.mono HK2.out ?_; rintro e v2 ⟨rfl, hw⟩; subst v2)
            | (go_at_call 9; refine (awake_any _ ht1).mono ?_; rintro e v6 ⟨rfl, hb1⟩; have hbel : Below w.heap.size w v6 := hbel.trans (hb1.mono hbel.size); clear hb1))
          go_ret
          exact ⟨rfl, hbel⟩
end Go.Proofs.YtkbimkpbpbjafaaDoor
