/- The walk of BitsBack: true for every argument, and nothing that was there is turned. -/
import Derived.Test.YtffnhmccoacglaaPut
namespace Go.Proofs.Ytffnhmccoacglaa
set_option linter.unusedSimpArgs false
set_option linter.unusedVariables false
open Go.RowKit
theorem sm_digits (V n : Nat) : sm (fun j => V / 256 ^ j % 256) n = V % 256 ^ n := by
  induction n with
  | zero => simp [sm, Nat.mod_one]
  | succ n ih =>
    simp only [sm]
    rw [ih, Nat.pow_succ, Nat.mod_mul, Nat.mul_comm (256 ^ n)]
theorem get_put (l : List Nat) (p size : Nat) (big : Bool) (V : Nat) (h : p + size ≤ l.length) : getV (putL l p size big V) p size big = V % 256 ^ size := by
  rw [← sm_digits]
  apply sm_congr
  intro j hj
  have h1 := plc_lt size big j hj
  rw [putL_get _ _ _ _ _ _ (by omega), if_pos (by omega), Nat.add_sub_cancel_left, plc_plc size big j hj]
theorem uv_vr (f i V v : Nat) (t : List Nat) (hi : i + f = 9) (hV : V < 2 ^ (64 - 7 * i)) (h0 : 0 < i → V ≠ 0) : uv (vr f V ++ t) i v = (v + V * 128 ^ i, i + (vr f V).length) := by
  induction f generalizing i V v with
  | zero =>
    have e9 : i = 9 := by omega
    subst e9
    have hV2 : V < 2 := by simpa using hV
    have := h0 (by omega)
    obtain rfl : V = 1 := by omega
    simp [vr, uv_cons]
  | succ f ih =>
    simp only [vr]
    split
    · rename_i h128
      simp only [List.cons_append, List.nil_append, uv_cons]
      rw [if_neg (by omega), if_neg (by omega), if_neg (by rintro ⟨a, b⟩; exact h0 b a), Nat.mod_eq_of_lt h128]
      simp
    · rename_i h128
      have hV2 : V / 128 < 2 ^ (64 - 7 * (i + 1)) := by
        have e : 64 - 7 * i = (64 - 7 * (i + 1)) + 7 := by omega
        rw [e, Nat.pow_add] at hV
        omega
      simp only [List.cons_append, uv_cons]
      rw [if_neg (by omega), if_pos (by omega), ih (i + 1) (V / 128) _ (by omega) hV2 (by intro _; omega)]
      have e1 : (V % 128 + 128) % 128 = V % 128 := by omega
      rw [e1]
      have e2 : V * 128 ^ i = V % 128 * 128 ^ i + V / 128 * 128 ^ (i + 1) := by
        rw [Nat.pow_succ, ← Nat.mul_assoc, Nat.mul_right_comm (V / 128), ← Nat.add_mul]
        congr 1
        omega
      simp only [List.length_cons, Prod.mk.injEq]
      omega
theorem uv_groups (V : Nat) (t : List Nat) (h : V ≤ 18446744073709551615) : uv (groups V ++ t) 0 0 = (V, (groups V).length) := by
  have := uv_vr 9 0 V 0 t (by omega) (by simp; omega) (by omega)
  simpa [groups] using this
theorem narrow_back (v n : Int) (s : Bool) (h0 : -9223372036854775808 ≤ v) (h1 : v ≤ 9223372036854775807) (h : narrowB v n s = true) : widenI (narrowV v n s) n s = v ∧ 0 ≤ narrowV v n s ∧ narrowV v n s ≤ 18446744073709551615 := by
  have hn : 1 ≤ n ∧ n ≤ 64 := by simp [narrowB] at h; exact h.1
  have hf : fitsIn v n.toNat s = true := by simp [narrowB] at h; exact h.2
  have hv : narrowV v n s = v % 2 ^ n.toNat := by simp [narrowV, h]
  have hb := mod_bd v n.toNat
  have h64 := p2le64 n.toNat (by omega)
  rw [hv]
  refine ⟨?_, by omega, by omega⟩
  unfold widenI
  rw [if_neg (by omega)]
  refine (widen_narrow v n.toNat s (by omega) (by omega) h0 h1 ?_).2 hf
  intro e; subst e
  simp [fitsIn] at hf
  exact hf.1
end Go.Proofs.Ytffnhmccoacglaa
