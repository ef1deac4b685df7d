/- The document's sums and numbers, by what they are alone: they end, and tell some number. -/
import Derived.Test.YtnnljdnaipjoiaaRb
namespace Go.Proofs.Ytnnljdnaipjoiaa
set_option linter.unusedSimpArgs false
set_option linter.unusedVariables false
open Go.RowKit
theorem and1 (c : Nat) (h : c < 4294967296) : bits .and .u32 (c : Int) 1 = ((c % 2 : Nat) : Int) := by
  have := u32_and_nat c 1 h (by decide)
  rw [nat_mask1] at this
  exact this
theorem xor_lt32 {a b : Nat} (h : a < 4294967296) (h2 : b < 4294967296) : a ^^^ b < 4294967296 := Nat.xor_lt_two_pow (n := 32) h h2
theorem xor32 (a b : Nat) (h : a < 4294967296) (h2 : b < 4294967296) : bits .xor .u32 (a : Int) (b : Int) = ((a ^^^ b : Nat) : Int) := u32_xor_nat a b h h2
/-- Some number of 32 bits. -/
def U32 (e : Ending) : Prop := ∃ q : Nat, q < 4294967296 ∧ e = .returned (.int .u32 q)
theorem step_l (c x : Nat) (w : World) (hc : c < 4294967296) (hx : x < 256) :
    Calls Try.prog 64 #[.int .u32 c, .int .u8 x] w fun e w' => U32 e ∧ w' = w := by
  have hX := xor32 c x hc (by omega)
  have hXl := xor_lt32 hc (show x < 4294967296 by omega)
  generalize c ^^^ x = d at *
  go_enter Try.func64, Try.ntmps64
  go_wp2
  go_loop [0, 5] (fun v i => ∃ (k C : Nat), k ≤ 8 ∧ v = .int .u32 C ∧ i = .int .i64 k ∧ C < 4294967296) (fun _ i => 8 - (intOf i).toNat)
  case atStart => exact ⟨0, d, by omega, rfl, rfl, hXl⟩
  case round =>
    obtain ⟨k, C, hk, rfl, rfl, hC⟩ := hrel
    by_cases hlt : k < 8
    · have h1 := and1 C hC
      have hkI : (k : Int) < 8 := by omega
      rcases Nat.mod_two_eq_zero_or_one C with hp | hp
      · have hv : (C : Int) / 2 = ((C / 2 : Nat) : Int) := by omega
        have hl2 : C / 2 < 4294967296 := by omega
        rw [hp] at h1
        generalize C / 2 = D at *
        go_wp2
        exact ⟨⟨k + 1, D, by omega, by go_num, by go_num, hl2⟩, by simp [intOf]; omega⟩
      · have hv : bits .xor .u32 ((C : Int) / 2) 2197175160 = (((C / 2) ^^^ 2197175160 : Nat) : Int) := by
          have := u32_xor_nat (C / 2) 2197175160 (by omega) (by decide)
          rw [← this]
          rfl
        have hl2 : (C / 2) ^^^ 2197175160 < 4294967296 := xor_lt32 (by omega) (by decide)
        rw [hp] at h1
        generalize (C / 2) ^^^ 2197175160 = D at *
        go_wp2
        exact ⟨⟨k + 1, D, by omega, by go_num, by go_num, hl2⟩, by simp [intOf]; omega⟩
    · obtain rfl : k = 8 := by omega
      go_wp2
      go_ret
      exact ⟨⟨C, hC, rfl⟩, rfl⟩
theorem ones_xor (c : Nat) (h : c < 4294967296) : bits .xor .u32 IntKind.u32.max (c : Int) = ((4294967295 ^^^ c : Nat) : Int) := xor32 4294967295 c (by decide) h
theorem more_l (c : Nat) (a : Option Addr) (cap : Nat) (l : List Nat) (w : World) (hc : c < 4294967296) (hr : Row w a l) (hl : l.length ≤ maxLen) :
    Calls Try.prog 61 #[.int .u32 c, .slice a l.length cap] w fun e w' => U32 e ∧ w' = w := by
  unfold maxLen at hl
  have ho := ones_xor c hc
  have hol : 4294967295 ^^^ c < 4294967296 := xor_lt32 (by decide) hc
  generalize 4294967295 ^^^ c = d at *
  go_enter Try.func61, Try.ntmps61
  go_wp2
  go_loop [0, 5] (fun v i => ∃ (k C : Nat), k ≤ l.length ∧ v = .int .u32 C ∧ i = .int .i64 k ∧ C < 4294967296) (fun _ i => l.length - (intOf i).toNat)
  case atStart => exact ⟨0, d, by omega, rfl, rfl, hol⟩
  case round =>
    obtain ⟨k, C, hk, rfl, rfl, hC⟩ := hrel
    by_cases hlt : k < l.length
    · obtain ⟨b, off, rfl, hcell, hx⟩ := hr k hlt
      have hltI : (k : Int) < (l.length : Int) := by omega
      clear hr
      generalize l.getD k 0 = x at *
      go_wp2_with (go_at_call 64; refine (step_l _ _ _ hC hx).mono ?_; rintro e w' ⟨⟨D, hD, rfl⟩, rfl⟩)
      exact ⟨⟨k + 1, D, by omega, by go_num, by go_num, hD⟩, by simp [intOf]; omega⟩
    · obtain rfl : k = l.length := by omega
      have h2 := ones_xor C hC
      have h3 : 4294967295 ^^^ C < 4294967296 := xor_lt32 (by decide) hC
      generalize 4294967295 ^^^ C = D at *
      clear hr
      go_wp2
      go_ret
      exact ⟨⟨D, h3, rfl⟩, rfl⟩
theorem sum_l (a : Option Addr) (cap : Nat) (l : List Nat) (w : World) (hr : Row w a l) (hl : l.length ≤ maxLen) :
    Calls Try.prog 58 #[.slice a l.length cap] w fun e w' => U32 e ∧ w' = w := by
  go_enter Try.func58, Try.ntmps58
  go_wp2_with (go_at_call 61; refine (more_l 0 _ _ _ _ (by decide) hr hl).mono ?_; rintro e w' ⟨⟨D, hD, rfl⟩, rfl⟩)
  go_ret
  exact ⟨⟨D, hD, rfl⟩, rfl⟩
/-- Some number of 64 bits. -/
def U64 (e : Ending) : Prop := ∃ q : Nat, q ≤ 18446744073709551615 ∧ e = .returned (.int .u64 q)
theorem zig_l (v : Int) (w : World) : Calls Try.prog 63 #[.int .i64 v] w fun e w' => U64 e ∧ w' = w := by
  have h : ∃ q : Nat, q ≤ 18446744073709551615 ∧ bits .xor .u64 (IntKind.u64.wrap (IntKind.u64.wrap v * 2)) (IntKind.u64.wrap (v / 9223372036854775808)) = (q : Int) := by
    refine ⟨_, ?_, u64_xor _ _ (by simp only [IntKind.wrap_u64]; omega) (by simp only [IntKind.wrap_u64]; omega) (by simp only [IntKind.wrap_u64]; omega) (by simp only [IntKind.wrap_u64]; omega)⟩
    have := Nat.xor_lt_two_pow (n := 64) (x := (IntKind.u64.wrap (IntKind.u64.wrap v * 2)).toNat) (y := (IntKind.u64.wrap (v / 9223372036854775808)).toNat) (by simp only [IntKind.wrap_u64]; omega) (by simp only [IntKind.wrap_u64]; omega)
    omega
  obtain ⟨q, hq, he⟩ := h
  go_enter Try.func63, Try.ntmps63
  go_wp2
  go_ret
  exact ⟨⟨q, hq, by rw [← he]; rfl⟩, rfl⟩
/-- Yes or no. -/
def BoolE (e : Ending) : Prop := ∃ b, e = .returned (.bool b)
theorem odd_l (r : Rc) (w : World) : Calls Try.prog 59 #[.agg r.cells] w fun e w' => BoolE e ∧ Below w.heap.size w w' := by
  obtain ⟨hk, k, hv, v, t, o⟩ := r
  simp only [Rc.cells]
  go_enter Try.func59, Try.ntmps59
  go_wp2_with fail
  all_goals
    go_ret
    exact ⟨⟨_, rfl⟩, below_box _⟩
/-- What Check tells: none but of short texts is let through. -/
def ChkE (r : Rc) (e : Ending) : Prop := ∃ c : Int, e = .returned (.int .i64 c) ∧ (c = 0 → r.k.size ≤ 2000 ∧ r.v.size ≤ 2000)
theorem check_l (r : Rc) (w : World) : Calls Try.prog 55 #[.agg r.cells] w fun e w' => ChkE r e ∧ Below w.heap.size w w' := by
  have HO : Hid _ := odd_l r
  obtain ⟨hk, k, hv, v, t, o⟩ := r
  simp only [Rc.cells] at HO ⊢
  go_enter Try.func55, Try.ntmps55
  go_wp2_with (go_at_call 59; refine (HO.out _).mono ?_; rintro e w1 ⟨⟨b, rfl⟩, hb⟩; obtain ⟨hc, hf⟩ := bcell hb; have hz : w.heap.size < w1.heap.size := by (have := hb.size; simp at this; omega))
  all_goals
    go_ret
    refine ⟨⟨_, rfl, fun h => ?_⟩, (below_box _).trans (hb.mono (by simp))⟩
    simp only
    omega
end Go.Proofs.Ytnnljdnaipjoiaa
