/- What First (of bits) returns over any bytes, 2000 at most. -/
import Derived.Test.YtffnhmccoacglaaVar
namespace Go.Proofs.Ytffnhmccoacglaa
set_option linter.unusedSimpArgs false
set_option linter.unusedVariables false
open Go.RowKit
/-- r is the first bit below n that is there and 0, or -1. -/
def FirstIs (l : List Nat) (n r : Int) : Prop :=
  (∃ k : Nat, r = k ∧ (k : Int) < n ∧ k / 8 < l.length ∧ tst l k = false ∧ ∀ j, j < k → tst l j = true) ∨
  (r = -1 ∧ ∀ k : Nat, (k : Int) < n → k / 8 < l.length → tst l k = true)
theorem FirstIs.one {l : List Nat} {n r s : Int} (h : FirstIs l n r) (h2 : FirstIs l n s) : r = s := by
  rcases h with ⟨k, rfl, a1, a2, a3, a4⟩ | ⟨rfl, a⟩ <;> rcases h2 with ⟨m, rfl, b1, b2, b3, b4⟩ | ⟨rfl, b⟩
  · have h1 : ¬ k < m := fun h => by have := b4 k h; simp [a3] at this
    have h2 : ¬ m < k := fun h => by have := a4 m h; simp [b3] at this
    omega
  · have := b k a1 a2; simp [a3] at this
  · have := a m b1 b2; simp [b3] at this
  · rfl
theorem all255 : ∀ j : Fin 8, 255 / 2 ^ j.val % 2 = 1 := by decide
theorem only255 : ∀ c : Fin 256, (∀ j : Fin 8, c.val / 2 ^ j.val % 2 = 1) → c.val = 255 := by decide +kernel
theorem tst_at (l : List Nat) (k j : Nat) (hj : j < 8) : tst l (8 * k + j) = (l.getD k 0 / 2 ^ j % 2 == 1) := by
  unfold tst; rw [show (8 * k + j) / 8 = k by omega, show (8 * k + j) % 8 = j by omega]
theorem full_byte (l : List Nat) (k : Nat) (h : l.getD k 0 = 255) (h0 : ∀ j, j < 8 * k → tst l j = true) : ∀ j, j < 8 * (k + 1) → tst l j = true := by
  intro j hj
  by_cases h8 : j < 8 * k
  · exact h0 j h8
  · obtain ⟨i, rfl⟩ : ∃ i, j = 8 * k + i := ⟨j - 8 * k, by omega⟩
    rw [tst_at l k i (by omega), h]
    simpa using all255 ⟨i, by omega⟩
theorem not_full (l : List Nat) (k t : Nat) (hc : l.getD k 0 < 256) (h : l.getD k 0 ≠ 255) (h0 : ∀ j, j < t → tst l j = true) (ht : t < 8 * k + 8) (h1 : tst l t = true) : t + 1 < 8 * k + 8 := by
  apply Nat.lt_of_not_le
  intro hle
  apply h
  refine only255 ⟨_, hc⟩ ?_
  intro j
  have := j.isLt
  have h2 : tst l (8 * k + j.val) = true := by
    by_cases h3 : 8 * k + j.val < t
    · exact h0 _ h3
    · rw [show 8 * k + j.val = t by omega]; exact h1
  rw [tst_at l k j.val this] at h2
  simpa using h2
structure Full (l : List Nat) (t : Nat) : Prop where
  all : ∀ j, j < t → tst l j = true
theorem tstI_nat (l : List Nat) (t : Nat) : tstI l t = tst l t := by simp [tstI]
set_option maxRecDepth 100000 in
theorem first_any (a : Option Addr) (cap : Nat) (l : List Nat) (n : Int) (w : World) (hr : Row w a l) (hl : l.length ≤ 2000) :
    Calls Try.prog 38 #[.slice a l.length cap, .int .i64 n] w fun e w' => (∃ r, e = .returned (.int .i64 r) ∧ FirstIs l n r) ∧ w' = w := by
  have hl2 : l.length ≤ maxLen := by unfold maxLen; omega
  go_enter Try.func38, Try.ntmps38
  go_wp2
  go_loop [10] (fun i => ∃ k : Nat, k ≤ l.length ∧ i = .int .i64 k ∧ Full l (8 * k)) (fun i => l.length - (intOf i).toNat)
  case atStart => exact ⟨0, by omega, rfl, ⟨by intro j hj; omega⟩⟩
  case round =>
    obtain ⟨k, hk, rfl, hfull⟩ := hrel
    by_cases hlt : k < l.length
    · have hr' := hr
      obtain ⟨b, off, rfl, hc, hlt2⟩ := hr k hlt
      have hltI : (k : Int) < (l.length : Int) := by omega
      by_cases h255 : l.getD k 0 = 255
      · have HF : Hid (Full l (8 * (k + 1))) := ⟨full_byte l k h255 hfull.all⟩
        rw [h255] at hc
        clear h255 hr' hr hfull
        go_wp2
        go_round
        case rel => exact ⟨k + 1, by omega, by go_num, HF.out⟩
        case measure => simp [intOf]; omega
      · have HN : Hid (∀ t, Full l t → t < 8 * k + 8 → tst l t = true → t + 1 < 8 * k + 8) := fun t hf ht h1 => not_full l k t hlt2 h255 hf.all ht h1
        generalize hce : l.getD k 0 = c at *
        have h255' : ((c : Int) == 255) = false := by rw [beq_eq_false_iff_ne]; omega
        clear hce h255
        go_wp2
        go_loop [7] (fun i => ∃ t : Nat, 8 * k ≤ t ∧ t < 8 * k + 8 ∧ i = .int .i64 t ∧ Full l t) (fun i => 8 * k + 8 - (intOf i).toNat)
        case atStart => exact ⟨8 * k, by omega, by omega, by go_num, hfull⟩
        case round =>
          obtain ⟨t, ht0, ht1, rfl, hft⟩ := hrel
          by_cases hb : tst l t = true
          · have h2 := HN.out t hft ht1 hb
            have HF : Hid (Full l (t + 1)) := ⟨by
              intro j hj
              by_cases h : j = t
              · subst h; exact hb
              · exact hft.all j (by omega)⟩
            have hbI : tstI l t = true := by rw [tstI_nat]; exact hb
            clear hb hft
            go_wp2_with (go_at_call 35; refine (test_any _ _ _ _ _ hr' hl2 (by omega)).mono ?_; rintro e w' ⟨rfl, rfl⟩; rw [hbI])
            go_round
            case rel => exact ⟨t + 1, by omega, by omega, by go_num, HF.out⟩
            case measure => simp [intOf]; omega
          · have hb2 : tst l t = false := by simpa using hb
            have hbI : tstI l t = false := by rw [tstI_nat]; exact hb2
            have HF : Hid (if (t : Int) < n then FirstIs l n t else FirstIs l n (-1)) := by
              show ite _ _ _
              split
              · exact .inl ⟨t, rfl, by assumption, by omega, hb2, hft.all⟩
              · exact .inr ⟨rfl, fun j hj _ => hft.all j (by omega)⟩
            clear hb hb2 hft
            by_cases htn : (t : Int) < n
            · have HG : Hid (FirstIs l n t) := by have := HF.out; rw [if_pos htn] at this; exact this
              clear HF
              go_wp2_with (go_at_call 35; refine (test_any _ _ _ _ _ hr' hl2 (by omega)).mono ?_; rintro e w' ⟨rfl, rfl⟩; rw [hbI])
              go_ret
              exact ⟨⟨_, rfl, HG.out⟩, rfl⟩
            · have HG : Hid (FirstIs l n (-1)) := by have := HF.out; rw [if_neg htn] at this; exact this
              clear HF
              go_wp2_with (go_at_call 35; refine (test_any _ _ _ _ _ hr' hl2 (by omega)).mono ?_; rintro e w' ⟨rfl, rfl⟩; rw [hbI])
              go_ret
              exact ⟨⟨_, rfl, HG.out⟩, rfl⟩
    · have HG : Hid (FirstIs l n (-1)) := .inr ⟨rfl, fun j _ hj => hfull.all j (by omega)⟩
      go_wp2
      go_ret
      exact ⟨⟨_, rfl, HG.out⟩, rfl⟩
end Go.Proofs.Ytffnhmccoacglaa
