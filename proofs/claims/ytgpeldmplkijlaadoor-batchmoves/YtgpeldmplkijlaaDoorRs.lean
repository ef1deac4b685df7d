/- The document's own sum: step, More and Sum, as stage 2 has them. -/
import Derived.Test.YtgpeldmplkijlaaDoorCs
namespace Go.Proofs.YtgpeldmplkijlaaDoor
set_option linter.unusedSimpArgs false
set_option linter.unusedVariables false
open Go.RowKit
theorem and1 (c : Nat) (h : c < 4294967296) : bits .and .u32 (c : Int) 1 = ((c % 2 : Nat) : Int) := by
  have := u32_and_nat c 1 h (by decide)
  rw [nat_mask1] at this
  exact this
theorem sh_odd (c : Nat) (h : c < 4294967296) (h1 : c % 2 = 1) : bits .xor .u32 ((c : Int) / 2) 2197175160 = ((P.sh c : Nat) : Int) := by
  have := u32_xor_nat (c / 2) 2197175160 (by omega) (by decide)
  rw [P.sh, if_pos h1, ← this]
  rfl
theorem sh_ev (c : Nat) (h1 : c % 2 = 0) : (c : Int) / 2 = ((P.sh c : Nat) : Int) := by
  rw [P.sh, if_neg (by omega)]
  rfl
theorem step_any (c x : Nat) (w : World) (hc : c < 4294967296) (hx : x < 256) :
    Calls Tryd.prog 70 #[.int .u32 c, .int .u8 x] w fun e w' => e = .returned (.int .u32 ((P.stp c x : Nat) : Int)) ∧ w' = w := by
  obtain ⟨out, HO⟩ : ∃ out, Hid (P.stp c x = out) := ⟨_, rfl⟩
  rw [HO.out]
  have hX := xor32 c x hc (by omega)
  have hXl := xor_lt32 hc (show x < 4294967296 by omega)
  have HS : Hid (P.shN 8 (c ^^^ x) = out) := HO
  generalize c ^^^ x = d at *
  clear HO
  go_enter Tryd.func70, Tryd.ntmps70
  go_wp2
  go_loop [0, 5] (fun v i => ∃ (k C : Nat), k ≤ 8 ∧ v = .int .u32 C ∧ i = .int .i64 k ∧ C < 4294967296 ∧ P.shN (8 - k) C = out) (fun _ i => 8 - (intOf i).toNat)
  case atStart => exact ⟨0, d, by omega, rfl, rfl, hXl, HS.out⟩
  case round =>
    obtain ⟨k, C, hk, rfl, rfl, hC, hs⟩ := hrel
    by_cases hlt : k < 8
    · have HN : Hid (P.shN (8 - (k + 1)) (P.sh C) = out) := by
        show _ = _
        rw [← hs, show 8 - k = (8 - (k + 1)) + 1 by omega]
        rfl
      have hl2 := P.sh_lt C hC
      have h1 := and1 C hC
      have hkI : (k : Int) < 8 := by omega
      clear hs
      rcases Nat.mod_two_eq_zero_or_one C with hp | hp
      · have hv := sh_ev C hp
        rw [hp] at h1
        generalize P.sh C = D at *
        go_wp2
        exact ⟨⟨k + 1, D, by omega, by go_num, by go_num, hl2, HN.out⟩, by simp [intOf]; omega⟩
      · have hv := sh_odd C hC hp
        rw [hp] at h1
        generalize P.sh C = D at *
        go_wp2
        exact ⟨⟨k + 1, D, by omega, by go_num, by go_num, hl2, HN.out⟩, by simp [intOf]; omega⟩
    · obtain rfl : k = 8 := by omega
      have HN : Hid (C = out) := hs
      clear hs
      go_wp2
      go_ret
      exact ⟨retI (by rw [HN.out]), rfl⟩
theorem rmore_any (c : Nat) (a : Option Addr) (cap : Nat) (l : List Nat) (w : World) (hc : c < 4294967296) (hr : Row w a l) (hl : l.length ≤ maxLen) :
    Calls Tryd.prog 51 #[.int .u32 c, .slice a l.length cap] w fun e w' => e = .returned (.int .u32 ((P.more c l : Nat) : Int)) ∧ w' = w := by
  unfold maxLen at hl
  obtain ⟨out, HO⟩ : ∃ out, Hid (P.reg (P.ones ^^^ c) l = out) := ⟨_, rfl⟩
  have HM : Hid (P.more c l = P.ones ^^^ out) := by show _ = _; rw [P.more, HO.out]
  rw [HM.out]
  have ho := ones_xor c hc
  have hol : P.ones ^^^ c < 4294967296 := xor_lt32 (by decide) hc
  generalize P.ones ^^^ c = d at *
  clear HM
  go_enter Tryd.func51, Tryd.ntmps51
  go_wp2
  go_loop [0, 5] (fun v i => ∃ (k C : Nat), k ≤ l.length ∧ v = .int .u32 C ∧ i = .int .i64 k ∧ C < 4294967296 ∧ P.reg C (l.drop k) = out) (fun _ i => l.length - (intOf i).toNat)
  case atStart => exact ⟨0, d, by omega, rfl, rfl, hol, by simpa using HO.out⟩
  case round =>
    obtain ⟨k, C, hk, rfl, rfl, hC, hs⟩ := hrel
    by_cases hlt : k < l.length
    · obtain ⟨b, off, rfl, hcell, hx⟩ := hr k hlt
      rw [reg_drop C l k hlt] at hs
      have hS := P.stp_lt C _ hC hx
      have HS : Hid (P.reg (P.stp C (l.getD k 0)) (l.drop (k + 1)) = out) := hs
      have hltI : (k : Int) < (l.length : Int) := by omega
      clear hs hr
      generalize l.getD k 0 = x at *
      obtain ⟨D, HD⟩ : ∃ D, Hid (P.stp C x = D) := ⟨_, rfl⟩
      rw [HD.out] at HS hS
      go_wp2_with (go_at_call 70; refine (step_any _ _ _ hC hx).mono ?_; rintro e w' ⟨rfl, rfl⟩; rw [HD.out])
      exact ⟨⟨k + 1, D, by omega, by go_num, by go_num, hS, HS.out⟩, by simp [intOf]; omega⟩
    · obtain rfl : k = l.length := by omega
      have HN : Hid (C = out) := by show _ = _; rw [← hs, List.drop_length]; rfl
      have h2 := ones_xor C hC
      clear hs hr
      go_wp2
      go_ret
      exact ⟨retI (by rw [HN.out]), rfl⟩
theorem rsum_any (a : Option Addr) (cap : Nat) (l : List Nat) (w : World) (hr : Row w a l) (hl : l.length ≤ maxLen) :
    Calls Tryd.prog 35 #[.slice a l.length cap] w fun e w' => e = .returned (.int .u32 ((P.sum l : Nat) : Int)) ∧ w' = w := by
  go_enter Tryd.func35, Tryd.ntmps35
  go_wp2_with (go_at_call 51; refine (rmore_any 0 _ _ _ _ (by decide) hr hl).mono ?_; rintro e w' ⟨rfl, rfl⟩)
  go_ret
  exact ⟨rfl, rfl⟩
end Go.Proofs.YtgpeldmplkijlaaDoor
