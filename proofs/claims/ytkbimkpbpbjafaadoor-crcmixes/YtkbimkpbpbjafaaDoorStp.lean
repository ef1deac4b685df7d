/- The document's own answer: step, More and Sum, over any bytes. -/
import Derived.Test.YtkbimkpbpbjafaaDoorMem
namespace Go.Proofs.YtkbimkpbpbjafaaDoor
set_option linter.unusedSimpArgs false
set_option linter.unusedVariables false
open Go.RowKit
theorem bdu32 {a : Int} (h : (Lit.int .u32 a).wf = true) : 0 ≤ a ∧ a ≤ 4294967295 := by
  simpa [Lit.wf, IntKind.min, IntKind.max, IntKind.signed, IntKind.bits] using h
theorem and1 (c : Nat) (h : c < 4294967296) : bits .and .u32 (c : Int) 1 = ((c % 2 : Nat) : Int) := by
  have := u32_and_nat c 1 h (by decide)
  rw [nat_mask1] at this
  exact this
theorem sh_odd (c : Nat) (h : c < 4294967296) (h1 : c % 2 = 1) : bits .xor .u32 ((c : Int) / 2) 2197175160 = ((P.sh c : Nat) : Int) := by
  have := u32_xor_nat (c / 2) 2197175160 (by omega) (by decide)
  rw [P.sh, if_pos h1, ← this]
  rfl
theorem sh_ev (c : Nat) (h1 : c % 2 = 0) : (c : Int) / 2 = ((P.sh c : Nat) : Int) := by
  rw [P.sh, if_neg (by omega)]
  rfl
theorem xor_lt32 {a b : Nat} (h : a < 4294967296) (h2 : b < 4294967296) : a ^^^ b < 4294967296 := Nat.xor_lt_two_pow (n := 32) h h2
theorem xor32 (a b : Nat) (h : a < 4294967296) (h2 : b < 4294967296) : bits .xor .u32 (a : Int) (b : Int) = ((a ^^^ b : Nat) : Int) := u32_xor_nat a b h h2
theorem step_any (c x : Nat) (w : World) (hc : c < 4294967296) (hx : x < 256) :
    Calls Tryd.prog 16 #[.int .u32 c, .int .u8 x] w fun e w' => e = .returned (.int .u32 ((P.stp c x : Nat) : Int)) ∧ w' = w := by
  obtain ⟨out, HO⟩ : ∃ out, Hid (P.stp c x = out) := ⟨_, rfl⟩
  rw [HO.out]
  have hX := xor32 c x hc (by omega)
  have hXl := xor_lt32 hc (show x < 4294967296 by omega)
  have HS : Hid (P.shN 8 (c ^^^ x) = out) := HO
  generalize c ^^^ x = d at *
  clear HO
  go_enter Tryd.func16, Tryd.ntmps16
  go_wp2
  go_loop [0, 5] (fun v i => ∃ (k C : Nat), k ≤ 8 ∧ v = .int .u32 C ∧ i = .int .i64 k ∧ C < 4294967296 ∧ P.shN (8 - k) C = out) (fun _ i => 8 - (intOf i).toNat)
  case atStart => exact ⟨0, d, by omega, rfl, rfl, hXl, HS.out⟩
  case round =>
    obtain ⟨k, C, hk, rfl, rfl, hC, hs⟩ := hrel
    by_cases hlt : k < 8
    · have HN : Hid (P.shN (8 - (k + 1)) (P.sh C) = out) := by
        show _ = _
        rw [← hs, show 8 - k = (8 - (k + 1)) + 1 by omega]
        rfl
      have hl2 := P.sh_lt C hC
      have h1 := and1 C hC
      have hkI : (k : Int) < 8 := by omega
      clear hs
      rcases Nat.mod_two_eq_zero_or_one C with hp | hp
      · have hv := sh_ev C hp
        rw [hp] at h1
        generalize P.sh C = D at *
        go_wp2
        exact ⟨⟨k + 1, D, by omega, by go_num, by go_num, hl2, HN.out⟩, by simp [intOf]; omega⟩
      · have hv := sh_odd C hC hp
        rw [hp] at h1
        generalize P.sh C = D at *
        go_wp2
        exact ⟨⟨k + 1, D, by omega, by go_num, by go_num, hl2, HN.out⟩, by simp [intOf]; omega⟩
    · obtain rfl : k = 8 := by omega
      have HN : Hid (C = out) := hs
      clear hs
      go_wp2
      go_ret
      exact ⟨retI (by rw [HN.out]), rfl⟩
end Go.Proofs.YtkbimkpbpbjafaaDoor
