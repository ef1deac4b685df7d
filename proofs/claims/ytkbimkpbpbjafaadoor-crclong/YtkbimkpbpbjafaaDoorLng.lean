/- The walk of CrcLong: true for every argument. -/
import Derived.Test.YtkbimkpbpbjafaaDoorJn
import Derived.Test.YtkbimkpbpbjafaaDoorPcs
namespace Go.Proofs.YtkbimkpbpbjafaaDoor
set_option linter.unusedSimpArgs false
set_option linter.unusedVariables false
open Go.RowKit
theorem join_twice (a : Nat) (k : Nat) : join (join a 0 (2 ^ k)) 0 (2 ^ k) = join a 0 (2 * 2 ^ k) := by
  have hp : (0 : Int) < 2 ^ k := Int.pow_pos (by decide)
  have e : ((2 : Int) ^ k).toNat = 2 ^ k := by
    have : (2 : Int) ^ k = ((2 ^ k : Nat) : Int) := by simp
    rw [this, Int.toNat_natCast]
  have e2 : (2 * (2 : Int) ^ k).toNat = 2 ^ k + 2 ^ k := by omega
  unfold join
  rw [if_neg (by omega), if_neg (by omega), if_neg (by omega), Nat.xor_zero, Nat.xor_zero, Nat.xor_zero, e, e2, Nat.mul_add, P.shN_add]
theorem pow18 (k : Nat) (h : k ≤ 18) : (2 : Int) ^ k ≤ 262144 := by
  have h1 : 2 ^ k ≤ 2 ^ 18 := Nat.pow_le_pow_right (by decide) h
  have : (2 : Int) ^ k = ((2 ^ k : Nat) : Int) := by simp
  rw [this]
  exact Int.ofNat_le.2 h1
set_option maxRecDepth 100000 in
theorem crcLong_walk (a0 : Int) (a1 : Int) (w : World) (ht : Tab w) (w0 : (Lit.int .u32 a0).wf = true) (w1 : (Lit.int .i64 a1).wf = true) :
    Calls Tryd.prog 5 #[.int .u32 a0, .int .i64 a1] w fun e w' => e = .returned (.bool true) ∧ Below w.heap.size w w' := by
  obtain ⟨b1, b2⟩ := bdu32 w0
  clear w0 w1
  obtain ⟨a, rfl⟩ := Int.eq_ofNat_of_zero_le b1
  have ha : a < 4294967296 := by omega
  clear b1 b2
  by_cases h0 : a1 < 0
  · go_enter Tryd.func5, Tryd.ntmps5
    go_wp2_with (go_at_call 9; refine (awake_any _ ht).mono ?_; rintro e w' ⟨rfl, hb⟩)
    go_ret
    exact ⟨rfl, by assumption⟩
  by_cases h18 : 18 < a1
  · go_enter Tryd.func5, Tryd.ntmps5
    go_wp2_with (go_at_call 9; refine (awake_any _ ht).mono ?_; rintro e w' ⟨rfl, hb⟩)
    go_ret
    exact ⟨rfl, by assumption⟩
  obtain ⟨k, rfl⟩ := Int.eq_ofNat_of_zero_le (show 0 ≤ a1 by omega)
  have hk : k ≤ 18 := by omega
  have hkI : (k : Int) ≤ 18 := by omega
  have hp := pow18 k hk
  have hp0 : (0 : Int) < 2 ^ k := Int.pow_pos (by decide)
  have d0 : (0 : Nat) < 4294967296 := by decide
  have HX1 := join_lt a 0 (2 ^ k) ha d0
  have K1 : Hid (∀ w', Calls Tryd.prog 14 #[.int .u32 a, .int .u32 ((0 : Nat) : Int), .int .i64 (2 ^ k)] w' fun e w1 => e = .returned (.int .u32 ((join a 0 (2 ^ k) : Nat) : Int)) ∧ Below w'.heap.size w' w1) := fun w' => join_any a 0 (2 ^ k) w' ha d0 (by omega) (by omega)
  have K2 : Hid (∀ w', Calls Tryd.prog 14 #[.int .u32 ((join a 0 (2 ^ k) : Nat) : Int), .int .u32 ((0 : Nat) : Int), .int .i64 (2 ^ k)] w' fun e w1 => e = .returned (.int .u32 ((join a 0 (2 * 2 ^ k) : Nat) : Int)) ∧ Below w'.heap.size w' w1) := fun w' => by
    have := join_any (join a 0 (2 ^ k)) 0 (2 ^ k) w' HX1 d0 (by omega) (by omega)
    rw [join_twice] at this
    exact this
  have K3 : Hid (∀ w', Calls Tryd.prog 14 #[.int .u32 a, .int .u32 ((0 : Nat) : Int), .int .i64 (2 * 2 ^ k)] w' fun e w1 => e = .returned (.int .u32 ((join a 0 (2 * 2 ^ k) : Nat) : Int)) ∧ Below w'.heap.size w' w1) := fun w' => join_any a 0 (2 * 2 ^ k) w' ha d0 (by omega) (by omega)
  have K4 : Hid (∀ w', Calls Tryd.prog 14 #[.int .u32 a, .int .u32 ((0 : Nat) : Int), .int .i64 0] w' fun e w1 => e = .returned (.int .u32 a) ∧ Below w'.heap.size w' w1) := fun w' => join_any a 0 0 w' ha d0 (by omega) (by omega)
  have K5 : Hid (∀ w', Calls Tryd.prog 14 #[.int .u32 a, .int .u32 ((77 : Nat) : Int), .int .i64 (-1)] w' fun e w1 => e = .returned (.int .u32 a) ∧ Below w'.heap.size w' w1) := fun w' => join_any a 77 (-1) w' ha (by decide) (by omega) (by omega)
  generalize join a 0 (2 ^ k) = x1 at *
  generalize join a 0 (2 * 2 ^ k) = x2 at *
  have e2 := eqI (x2 : Int)
  have ea := eqI (a : Int)
  have tok1 : True := trivial
  have tok2 : True := trivial
  have tok3 : True := trivial
  have tok4 : True := trivial
  have tok5 : True := trivial
  have hbel := Below.refl w.heap.size w
  go_enter Tryd.func5, Tryd.ntmps5
  go_wp2_with (first
    | (go_at_call 14; have _t := tok1; refine (K1.out _).mono ?_; clear tok1 _t; rintro e v1 ⟨rfl, hb1⟩; have ht := ht.below hb1; have hbel : Below w.heap.size w v1 := hbel.trans (hb1.mono hbel.size); clear hb1)
    | (go_at_call 14; have _t := tok2; refine (K2.out _).mono ?_; clear tok2 _t; rintro e v2 ⟨rfl, hb1⟩; have ht := ht.below hb1; have hbel : Below w.heap.size w v2 := hbel.trans (hb1.mono hbel.size); clear hb1)
    | (go_at_call 14; have _t := tok3; refine (K3.out _).mono ?_; clear tok3 _t; rintro e v3 ⟨rfl, hb1⟩; have ht := ht.below hb1; have hbel : Below w.heap.size w v3 := hbel.trans (hb1.mono hbel.size); clear hb1)
    | (go_at_call 14; have _t := tok4; refine (K4.out _).mono ?_; clear tok4 _t; rintro e v4 ⟨rfl, hb1⟩; have ht := ht.below hb1; have hbel : Below w.heap.size w v4 := hbel.trans (hb1.mono hbel.size); clear hb1)
    | (go_at_call 14; have _t := tok5; refine (K5.out _).mono ?_; clear tok5 _t; rintro e v5 ⟨rfl, hb1⟩; have ht := ht.below hb1; have hbel : Below w.heap.size w v5 := hbel.trans (hb1.mono hbel.size); clear hb1)
    | (go_at_call 9; refine (awake_any _ ht).mono ?_; rintro e v6 ⟨rfl, hb1⟩; have hbel : Below w.heap.size w v6 := hbel.trans (hb1.mono hbel.size); clear hb1))
  go_ret
  exact ⟨rfl, hbel⟩
end Go.Proofs.YtkbimkpbpbjafaaDoor
