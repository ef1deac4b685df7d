/- What BitsShort asks of a number's groups, without the walk; and Round. -/
import Derived.Test.YtffnhmccoacglaaCln
import Derived.Deep.RegionHeld3
import Derived.Deep.AppendLies
namespace Go.Proofs.Ytffnhmccoacglaa
set_option linter.unusedSimpArgs false
set_option linter.unusedVariables false
open Go.RowKit
/-- All groups but the last have the bit 128. -/
theorem vr_split (f V : Nat) (h : V < 2 ^ (7 * f + 7)) : ∃ H z, vr f V = H ++ [z] ∧ (∀ x, x ∈ H → 128 ≤ x ∧ x < 256) ∧ H.length ≤ f ∧ z < 128 ∧ 128 ^ H.length ≤ max V 1 ∧ (H.length < f → V < 128 ^ (H.length + 1)) := by
  induction f generalizing V with
  | zero => exact ⟨[], V, rfl, by simp, by simp, by simpa using h, by simp; omega, by simp⟩
  | succ f ih =>
    simp only [vr]
    split
    · rename_i hV
      exact ⟨[], V, rfl, by simp, by simp, hV, by simp; omega, fun _ => by simpa using hV⟩
    · rename_i hV
      obtain ⟨H, z, e, h1, h2, h3, h4, h5⟩ := ih (V / 128) (by rw [show 7 * (f + 1) + 7 = (7 * f + 7) + 7 by omega, Nat.pow_add] at h; omega)
      refine ⟨(V % 128 + 128) :: H, z, by rw [e]; rfl, ?_, by simp; omega, h3, ?_, ?_⟩
      · intro x hx
        rcases List.mem_cons.1 hx with rfl | hx
        · omega
        · exact h1 x hx
      · simp only [List.length_cons, Nat.pow_succ]
        have : max (V / 128) 1 = V / 128 := by omega
        rw [this] at h4
        omega
      · intro hlt
        simp only [List.length_cons] at hlt
        have := h5 (by omega)
        simp only [List.length_cons]
        rw [Nat.pow_succ]
        omega
theorem uv_cont (l t : List Nat) (i v : Nat) (h : ∀ x, x ∈ l → 128 ≤ x ∧ x < 256) (hi : i + l.length ≤ 9) : ∃ v', uv (l ++ t) i v = uv t (i + l.length) v' := by
  induction l generalizing i v with
  | nil => exact ⟨v, rfl⟩
  | cons c r ih =>
    have hc := h c (by simp)
    simp only [List.length_cons] at hi
    simp only [List.cons_append, uv_cons]
    rw [if_neg (by omega), if_pos (by omega)]
    obtain ⟨v', e⟩ := ih (i + 1) (v + c % 128 * 128 ^ i) (fun x hx => h x (by simp [hx])) (by omega)
    exact ⟨v', by rw [e]; congr 1; simp; omega⟩
theorem uv_front (H : List Nat) (k : Nat) (h : ∀ x, x ∈ H → 128 ≤ x ∧ x < 256) (hl : H.length ≤ 9) : uv (H.take k) 0 0 = (0, 0) := by
  obtain ⟨v', e⟩ := uv_cont (H.take k) [] 0 0 (fun x hx => h x (List.mem_of_mem_take hx)) (by have := List.length_take_le' k H; omega)
  rw [List.append_nil] at e
  rw [e]; rfl
theorem uv_longer (H : List Nat) (z : Nat) (h : ∀ x, x ∈ H → 128 ≤ x ∧ x < 256) (hl : H.length ≤ 9) (hz : z < 128) : uv (H ++ [z + 128, 0]) 0 0 = (0, 0) := by
  obtain ⟨v', e⟩ := uv_cont H [z + 128, 0] 0 0 h (by omega)
  rw [e, Nat.zero_add, uv_cons]
  by_cases h9 : H.length = 9
  · rw [if_pos (by omega)]
  · rw [if_neg (by omega), if_pos (by omega), uv_cons, if_neg (by omega), if_neg (by omega), if_pos (by omega)]
theorem round_any (k n : Int) (w : World) (hk0 : -9223372036854775808 ≤ k) (hk1 : k ≤ 9223372036854775807) (hn : 1 ≤ n) (hn1 : n ≤ 10) :
    Calls Try.prog 42 #[.int .i64 k, .int .i64 n] w fun e w' => e = .returned (.int .i64 (k % n)) ∧ w' = w := by
  by_cases h0 : 0 ≤ k
  · have hm := Int.emod_nonneg k (show n ≠ 0 by omega)
    have ht : k.tmod n = k % n := Int.tmod_eq_emod_of_nonneg h0
    go_enter Try.func42, Try.ntmps42
    go_wp2
    go_ret
    exact ⟨rfl, rfl⟩
  · have ht := Int.tmod_eq_emod (a := k) (b := n)
    have hm := Int.emod_nonneg k (show n ≠ 0 by omega)
    have hm2 := Int.emod_lt_of_pos k (show 0 < n by omega)
    by_cases hd : n ∣ k
    · rw [if_pos (Or.inr hd)] at ht
      have h00 : k % n = 0 := Int.emod_eq_zero_of_dvd hd
      have ht2 : k.tmod n = 0 := by omega
      have HR : Hid (k % n = 0) := h00
      clear ht hm hm2 hd h00
      go_enter Try.func42, Try.ntmps42
      go_wp2
      go_ret
      exact ⟨by rw [HR.out]; rfl, rfl⟩
    · rw [if_neg (by omega)] at ht
      have hne : k % n ≠ 0 := fun c => hd (Int.dvd_of_emod_eq_zero c)
      have htn : k.tmod n < 0 := by omega
      have htl : -10 ≤ k.tmod n := by omega
      have HR : Hid (k % n = k.tmod n + n) := by show _ = _; omega
      clear ht hm hm2 hd hne
      go_enter Try.func42, Try.ntmps42
      go_wp2
      go_ret
      exact ⟨by rw [HR.out]; rfl, rfl⟩
end Go.Proofs.Ytffnhmccoacglaa
