/- What Unvarint (of bits, and the document's own) returns over any bytes. -/
import Derived.Test.YtaooidckmepdeaaDoorVar
namespace Go.Proofs.YtaooidckmepdeaaDoor
set_option linter.unusedSimpArgs false
set_option linter.unusedVariables false
open Go.RowKit
/-- The number that the bytes begin with, and how many they are: the groups from place i on, behind v. -/
def uv : List Nat → Nat → Nat → Nat × Nat
  | [], _, _ => (0, 0)
  | c :: r, i, v => if i = 9 ∧ 1 < c then (0, 0) else if 128 ≤ c then uv r (i + 1) (v + c % 128 * 128 ^ i) else if c = 0 ∧ 0 < i then (0, 0) else (v + c % 128 * 128 ^ i, i + 1)
theorem drop_at (l : List Nat) (k : Nat) (h : k < l.length) : l.drop k = l.getD k 0 :: l.drop (k + 1) := by
  rw [List.drop_eq_getElem_cons h]; simp [List.getD, h]
theorem p128 (n : Nat) (h : n ≤ 9) : (128 : Nat) ^ n ≤ 9223372036854775808 := by
  have := Nat.pow_le_pow_right (n := 128) (by decide) h
  omega
theorem u8_and127 (c : Nat) (h : c < 256) : bits .and .u8 (c : Int) 127 = ((c % 128 : Nat) : Int) := by
  rw [u8_and _ _ (by omega) (by omega) (by omega) (by omega), show ((127 : Int).toNat) = 2 ^ 7 - 1 by decide, Nat.and_two_pow_sub_one_eq_mod]
  simp
theorem or7 (V c k : Nat) (hk : k ≤ 9) (h9 : k = 9 → c ≤ 1) (hV : V < 128 ^ k) (hc : c < 128) : bits .or .u64 (V : Int) (IntKind.u64.wrap ((c : Int) * 2 ^ (7 * k))) = ((V + c * 128 ^ k : Nat) : Int) := by
  have hb : c * 128 ^ k + 128 ^ k ≤ 18446744073709551616 := by
    by_cases h : k = 9
    · have : c * 128 ^ k ≤ 1 * 128 ^ k := Nat.mul_le_mul_right _ (h9 h)
      have := p128 k hk
      omega
    · have h1 : c * 128 ^ k ≤ 127 * 128 ^ k := Nat.mul_le_mul_right _ (by omega)
      have h2 := p128 (k + 1) (by omega)
      rw [Nat.pow_succ] at h2
      omega
  have h3 := p128 k hk
  have e : ((c : Int) * 2 ^ (7 * k)) = ((c * 128 ^ k : Nat) : Int) := by
    have : (128 : Nat) ^ k = 2 ^ (7 * k) := by rw [Nat.pow_mul]
    rw [this]; simp
  rw [e, wu64 _ (by omega) (by omega), u64_or_nat _ _ (by omega) (by omega), Nat.or_comm, nat_join (7 * k) _ _ ?_ ?_, Nat.add_comm]
  · rw [Nat.pow_mul]; exact Nat.mul_mod_left _ _
  · rw [Nat.pow_mul]; exact hV
theorem grow7 (V c k : Nat) (hV : V < 128 ^ k) : V + c % 128 * 128 ^ k < 128 ^ (k + 1) := by
  have h1 : c % 128 * 128 ^ k ≤ 127 * 128 ^ k := Nat.mul_le_mul_right _ (by omega)
  rw [Nat.pow_succ]; omega
theorem retII {k j : IntKind} {a b c d : Int} (h : a = b) (h2 : c = d) : Ending.returned (.tuple #[.int k a, .int j c]) = .returned (.tuple #[.int k b, .int j d]) := by rw [h, h2]
theorem uv_cons (c : Nat) (r : List Nat) (i v : Nat) : uv (c :: r) i v = if i = 9 ∧ 1 < c then (0, 0) else if 128 ≤ c then uv r (i + 1) (v + c % 128 * 128 ^ i) else if c = 0 ∧ 0 < i then (0, 0) else (v + c % 128 * 128 ^ i, i + 1) := rfl

structure UvAt (l : List Nat) (r : Nat × Nat) (k V : Nat) : Prop where
  lt : V < 128 ^ k
  go : uv (l.drop k) k V = r

set_option maxRecDepth 100000 in
theorem unv_any (a : Option Addr) (cap : Nat) (l : List Nat) (w : World) (hr : Row w a l) (hl : l.length ≤ maxLen) :
    Calls Tryd.prog 114 #[.slice a l.length cap] w fun e w' => e = .returned (.tuple #[.int .u64 ((uv l 0 0).1 : Nat), .int .i64 ((uv l 0 0).2 : Nat)]) ∧ w' = w := by
  unfold maxLen at hl
  obtain ⟨r, HR⟩ : ∃ r, Hid (uv l 0 0 = r) := ⟨_, rfl⟩
  rw [HR.out]
  go_enter Tryd.func114, Tryd.ntmps114
  go_wp2
  go_loop [2, 8] (fun v i => ∃ k V : Nat, k ≤ l.length ∧ k ≤ 9 ∧ i = .int .i64 k ∧ v = .int .u64 V ∧ UvAt l r k V) (fun _ i => l.length - (intOf i).toNat)
  case atStart => exact ⟨0, 0, by omega, by omega, rfl, rfl, by omega, HR.out⟩
  case round =>
    obtain ⟨k, V, hk, hk9, rfl, rfl, hV, hu⟩ := hrel
    have HU : Hid (uv (l.drop k) k V = r) := hu
    clear hu HR
    by_cases hlt : k < l.length
    · obtain ⟨b, off, rfl, hc, hlt2⟩ := hr k hlt
      have HC : Hid (uv (l.getD k 0 :: l.drop (k + 1)) k V = r) := by rw [← drop_at l k hlt]; exact HU
      clear hr HU
      generalize l.getD k 0 = c at *
      have HV : Hid (V < 128 ^ k) := hV
      clear hV
      have h127 := u8_and127 c hlt2
      have hltI : (k : Int) < (l.length : Int) := by omega
      by_cases h9 : k = 9 ∧ 1 < c
      · have HE : Hid (r = (0, 0)) := by rw [← HC.out, uv_cons, if_pos h9]; exact rfl
        have hk9' : ((k : Int) == 9) = true := by rw [beq_iff_eq]; omega
        have h1c : 1 < (c : Int) := by omega
        clear HC h9
        go_wp2
        go_ret2
        rw [HE.out]
        exact ⟨rfl, rfl⟩
      · have HOR : Hid (bits .or .u64 (V : Int) (IntKind.u64.wrap ((c : Int) % 128 * 2 ^ (7 * k))) = ((V + c % 128 * 128 ^ k : Nat) : Int)) :=
          or7 V (c % 128) k hk9 (by intro e; have : c ≤ 1 := by omega
                                    omega) HV.out (by omega)
        have hd9 : ((k : Int) == 9 && decide (1 < (c : Int))) = false := by
          by_cases h : k = 9
          · have : c ≤ 1 := by omega
            simp; intro _; omega
          · simp; intro e; omega
        by_cases h128 : 128 ≤ c
        · have HE : Hid (uv (l.drop (k + 1)) (k + 1) (V + c % 128 * 128 ^ k) = r) := by rw [← HC.out, uv_cons, if_neg h9, if_pos h128]; exact rfl
          have hk9' : k ≠ 9 := by intro e; exact h9 ⟨e, by omega⟩
          have hkb : ((k : Int) == 9) = false := by rw [beq_eq_false_iff_ne]; omega
          clear HC h9 hd9
          go_wp2
          go_round
          case rel => exact ⟨k + 1, V + c % 128 * 128 ^ k, by omega, by omega, by go_num, by rw [HOR.out], grow7 V c k HV.out, HE.out⟩
          case measure => simp [intOf]; omega
        · by_cases h00 : c = 0 ∧ 0 < k
          · have HE : Hid (r = (0, 0)) := by rw [← HC.out, uv_cons, if_neg h9, if_neg h128, if_pos h00]; exact rfl
            obtain ⟨rfl, hk0⟩ := h00
            clear HC h9
            by_cases hk9' : ((k : Int) == 9) = true
            · go_wp2
              go_ret2
              rw [HE.out]
              exact ⟨rfl, rfl⟩
            · have hk9'' : ((k : Int) == 9) = false := by simpa using hk9'
              clear hk9'
              go_wp2
              go_ret2
              rw [HE.out]
              exact ⟨rfl, rfl⟩
          · have HE : Hid (r = (V + c % 128 * 128 ^ k, k + 1)) := by rw [← HC.out, uv_cons, if_neg h9, if_neg h128, if_neg h00]; exact rfl
            clear HC
            have hc1 : ¬ 128 ≤ (c : Int) := by omega
            by_cases hk9' : ((k : Int) == 9) = true
            · have hk : k = 9 := by have := WalkArith.int_eq hk9'; omega
              have hc1 : ¬ 1 < (c : Int) := by intro e; exact h9 ⟨hk, by omega⟩
              have hc0 : ((c : Int) == 0) = false := by rw [beq_eq_false_iff_ne]; intro e; exact h00 ⟨by omega, by omega⟩
              clear h9 h00 hk hd9
              go_wp2
              go_ret2
              rw [HE.out]
              exact ⟨retII (by rw [HOR.out]) (by omega), rfl⟩
            · have hk9'' : ((k : Int) == 9) = false := by simpa using hk9'
              clear hk9'
              by_cases hc0 : ((c : Int) == 0) = true
              · have hk0 : ¬ (0 : Int) < k := by have := WalkArith.int_eq hc0; intro e; exact h00 ⟨by omega, by omega⟩
                clear h9 h00 hd9
                go_wp2
                go_ret2
                rw [HE.out]
                exact ⟨retII (by rw [HOR.out]) (by omega), rfl⟩
              · have hc0' : ((c : Int) == 0) = false := by simpa using hc0
                clear h9 h00 hc0 hd9
                go_wp2
                go_ret2
                rw [HE.out]
                exact ⟨retII (by rw [HOR.out]) (by omega), rfl⟩
    · have HE : Hid (r = (0, 0)) := by rw [← HU.out, List.drop_eq_nil_of_le (by omega)]; exact rfl
      go_wp2
      go_ret2
      rw [HE.out]
      exact ⟨rfl, rfl⟩
end Go.Proofs.YtaooidckmepdeaaDoor
