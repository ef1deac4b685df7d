/- Narrow: a number in so many digits. -/
import Derived.Test.YtaooidckmepdeaaDoorBt
import Derived.WalkKit
import Derived.Laws.BitsAllLaws
namespace Go.Proofs.YtaooidckmepdeaaDoor
set_option linter.unusedSimpArgs false
set_option linter.unusedVariables false
open Go.RowKit
theorem w64 (n : Int) (h0 : -9223372036854775808 ≤ n) (h1 : n ≤ 9223372036854775807) : wrap64 n = n := by unfold wrap64; omega
theorem w64_bd (n : Int) : -9223372036854775808 ≤ wrap64 n ∧ wrap64 n ≤ 9223372036854775807 := by unfold wrap64; omega
theorem p2pos (n : Nat) : (0 : Int) < 2 ^ n := Int.pow_pos (by decide)
theorem p64 (n : Nat) (h : n ≤ 64) : (2 : Int) ^ (64 - n) * 2 ^ n = 18446744073709551616 := by
  rw [← Int.pow_add, show 64 - n + n = 64 by omega]; rfl
theorem p2succ (n : Nat) (h : 1 ≤ n) : (2 : Int) ^ n = 2 * 2 ^ (n - 1) := by
  obtain ⟨m, rfl⟩ : ∃ m, n = m + 1 := ⟨n - 1, by omega⟩
  simp [Int.pow_succ]; omega
theorem p2le (m n : Nat) (h : m ≤ n) : (2 : Int) ^ m ≤ 2 ^ n := by
  have := Nat.pow_le_pow_right (n := 2) (by decide) h
  exact_mod_cast this
theorem shl_eq (u : Int) (n : Nat) (h : n ≤ 64) : u * 2 ^ (64 - n) % 18446744073709551616 = u % 2 ^ n * 2 ^ (64 - n) := by
  rw [← p64 n h, Int.mul_comm u, Int.mul_emod_mul_of_pos _ _ (p2pos _), Int.mul_comm]

/-- Widen. -/
def widen (u : Int) (n : Nat) (s : Bool) : Int :=
  if s then (if u % 2 ^ n < 2 ^ (n - 1) then u % 2 ^ n else u % 2 ^ n - 2 ^ n) else wrap64 (u % 2 ^ n)
theorem mod_bd (u : Int) (n : Nat) : 0 ≤ u % 2 ^ n ∧ u % 2 ^ n < 2 ^ n := ⟨Int.emod_nonneg _ (by have := p2pos n; omega), Int.emod_lt_of_pos _ (p2pos n)⟩
theorem widenS_eq (u : Int) (n : Nat) (h1 : 1 ≤ n) (h : n ≤ 64) : wrap64 (IntKind.u64.wrap (u * 2 ^ (64 - n))) / 2 ^ (64 - n) = widen u n true := by
  rw [IntKind.wrap_u64, shl_eq u n h]
  have hS := p2pos (64 - n)
  have hp := p64 n h
  have hs := p2succ n h1
  obtain ⟨b0, b1⟩ := mod_bd u n
  unfold widen
  simp only [if_true]
  generalize u % 2 ^ n = r at *
  rw [hs] at hp b1 ⊢
  generalize (2 : Int) ^ (64 - n) = S at *
  generalize (2 : Int) ^ (n - 1) = H at *
  have hHS : H * S = 9223372036854775808 := by
    have : S * (2 * H) = 2 * (H * S) := by rw [Int.mul_left_comm, Int.mul_comm S H]
    omega
  by_cases hr : r < H
  · rw [if_pos hr]
    have h2 : r * S < H * S := Int.mul_lt_mul_of_pos_right hr hS
    have h3 : 0 ≤ r * S := Int.mul_nonneg b0 (by omega)
    rw [w64 _ (by omega) (by omega)]
    exact Int.mul_ediv_cancel r (by omega)
  · rw [if_neg hr]
    have h2 : H * S ≤ r * S := Int.mul_le_mul_of_nonneg_right (by omega) (by omega)
    have h3 : r * S < 2 * H * S := Int.mul_lt_mul_of_pos_right b1 hS
    have h4 : 2 * H * S = 18446744073709551616 := by rw [Int.mul_assoc]; omega
    have h5 : wrap64 (r * S) = (r - 2 * H) * S := by rw [Int.sub_mul]; unfold wrap64; omega
    rw [h5]
    exact Int.mul_ediv_cancel _ (by omega)
theorem widenU_eq0 (u : Int) (n : Nat) (h : n ≤ 64) : IntKind.u64.wrap (u * 2 ^ (64 - n)) / 2 ^ (64 - n) = u % 2 ^ n := by
  rw [IntKind.wrap_u64, shl_eq u n h]
  exact Int.mul_ediv_cancel _ (by have := p2pos (64 - n); omega)
theorem widenU_eq (u : Int) (n : Nat) (h : n ≤ 64) : wrap64 (IntKind.u64.wrap (u * 2 ^ (64 - n)) / 2 ^ (64 - n)) = widen u n false := by
  rw [widenU_eq0 u n h]; simp [widen]

/-- Narrow: does it fit? -/
def fitsIn (v : Int) (n : Nat) (s : Bool) : Bool := if s then decide (-2 ^ (n - 1) ≤ v ∧ v < 2 ^ (n - 1)) else decide (0 ≤ v ∧ v < 2 ^ n)
theorem p2le64 (n : Nat) (h : n ≤ 64) : (2 : Int) ^ n ≤ 18446744073709551616 := by have := p2le n 64 h; simpa using this
theorem widen_narrow (v : Int) (n : Nat) (s : Bool) (h1 : 1 ≤ n) (h : n ≤ 64) (v0 : -9223372036854775808 ≤ v) (v1 : v ≤ 9223372036854775807) (hs : s = false → 0 ≤ v) :
    (widen (v % 2 ^ n) n s = v) ↔ fitsIn v n s = true := by
  have hsu := p2succ n h1
  have hp := p2pos (n - 1)
  have h64 := p2le64 n h
  obtain ⟨b0, b1⟩ := mod_bd v n
  unfold widen fitsIn
  rw [Int.emod_emod_of_dvd _ (Int.dvd_refl _)]
  have hq := Int.emod_add_mul_ediv v (2 ^ n)
  cases s
  · simp only [Bool.false_eq_true, if_false, decide_eq_true_eq]
    have := hs rfl
    constructor
    · intro e
      refine ⟨this, ?_⟩
      by_cases h2 : v % 2 ^ n ≤ 9223372036854775807
      · rw [w64 _ (by omega) h2] at e; omega
      · exfalso
        unfold wrap64 at e
        omega
    · intro e
      rw [Int.emod_eq_of_lt e.1 e.2]
      exact w64 _ (by omega) (by omega)
  · simp only [if_true, decide_eq_true_eq]
    rw [hsu] at hq b0 b1 ⊢
    generalize v % (2 * 2 ^ (n - 1)) = r at *
    generalize v / (2 * 2 ^ (n - 1)) = q at *
    generalize (2 : Int) ^ (n - 1) = H at *
    constructor
    · intro e; split at e <;> omega
    · rintro ⟨e0, e1⟩
      have hq1 : q = 0 ∨ q = -1 := by
        have c1 : q < 1 := by
          apply Int.lt_of_not_ge; intro hc
          have : 2 * H * 1 ≤ 2 * H * q := Int.mul_le_mul_of_nonneg_left hc (by omega)
          omega
        have c2 : -2 < q := by
          apply Int.lt_of_not_ge; intro hc
          have : 2 * H * q ≤ 2 * H * (-2) := Int.mul_le_mul_of_nonneg_left hc (by omega)
          omega
        omega
      rcases hq1 with rfl | rfl
      · rw [if_pos (by omega)]; omega
      · rw [if_neg (by omega)]; omega
theorem retIB {k : IntKind} {a b : Int} {c d : Bool} (h : a = b) (h2 : c = d) : Ending.returned (.tuple #[.int k a, .bool c]) = .returned (.tuple #[.int k b, .bool d]) := by rw [h, h2]

theorem width_yes (v : Int) (w : World) (h1 : 1 ≤ v) (h2 : v ≤ 64) : Calls Tryd.prog 50 #[.int .i64 v] w fun e w' => e = .returned (.bool true) ∧ w' = w := by
  go_enter Tryd.func50, Tryd.ntmps50
  go_wp2
  go_ret
  simp [h1, h2]
theorem width_no (v : Int) (w : World) (h : v < 1 ∨ 64 < v) : Calls Tryd.prog 50 #[.int .i64 v] w fun e w' => e = .returned (.bool false) ∧ w' = w := by
  rcases h with h | h
  · go_enter Tryd.func50, Tryd.ntmps50
    go_wp2
    go_ret
    simp [show ¬ 1 ≤ v by omega]
  · have h1 : 1 ≤ v := by omega
    go_enter Tryd.func50, Tryd.ntmps50
    go_wp2
    go_ret
    simp [h1]
    omega
def widenI (u n : Int) (s : Bool) : Int := if n < 1 ∨ 64 < n then 0 else widen u n.toNat s
theorem widen_any (u n : Int) (s : Bool) (w : World) (h0 : 0 ≤ u) (h1 : u ≤ 18446744073709551615) :
    Calls Tryd.prog 51 #[.int .u64 u, .int .i64 n, .bool s] w fun e w' => e = .returned (.int .i64 (widenI u n s)) ∧ w' = w := by
  by_cases hn : n < 1 ∨ 64 < n
  · go_enter Tryd.func51, Tryd.ntmps51
    go_wp2_with (go_at_call 50; refine (width_no _ _ hn).mono ?_; rintro e w' ⟨rfl, rfl⟩)
    go_ret
    exact ⟨retI (by simp [widenI, hn]), rfl⟩
  · obtain ⟨m, rfl⟩ := Int.eq_ofNat_of_zero_le (show 0 ≤ n by omega)
    have hm0 : 1 ≤ (m : Int) := by omega
    have hm1 : (m : Int) ≤ 64 := by omega
    have e2 : widenI u m s = widen u m s := by simp [widenI]; omega
    have HE : Hid (widenI u m s = widen u m s) := e2
    clear e2 hn
    cases s
    · go_enter Tryd.func51, Tryd.ntmps51
      go_wp2_with (go_at_call 50; refine (width_yes _ _ hm0 hm1).mono ?_; rintro e w' ⟨rfl, rfl⟩)
      go_ret
      refine ⟨retI ?_, rfl⟩
      rw [HE.out, ← widenU_eq u m (by omega)]
    · go_enter Tryd.func51, Tryd.ntmps51
      go_wp2_with (go_at_call 50; refine (width_yes _ _ hm0 hm1).mono ?_; rintro e w' ⟨rfl, rfl⟩)
      go_ret
      refine ⟨retI ?_, rfl⟩
      rw [HE.out, ← widenS_eq u m (by omega) (by omega)]

def narrowB (v n : Int) (s : Bool) : Bool := decide (1 ≤ n ∧ n ≤ 64) && fitsIn v n.toNat s
def narrowV (v n : Int) (s : Bool) : Int := if narrowB v n s then v % 2 ^ n.toNat else 0
theorem narrowB_wide (v n : Int) (s : Bool) (hn : n < 1 ∨ 64 < n) : narrowB v n s = false := by
  simp [narrowB]; intro a b; omega
theorem narrow_any (v n : Int) (s : Bool) (w : World) (h0 : -9223372036854775808 ≤ v) (h1 : v ≤ 9223372036854775807) :
    Calls Tryd.prog 40 #[.int .i64 v, .int .i64 n, .bool s] w fun e w' => e = .returned (.tuple #[.int .u64 (narrowV v n s), .bool (narrowB v n s)]) ∧ w' = w := by
  by_cases hn : n < 1 ∨ 64 < n
  · go_enter Tryd.func40, Tryd.ntmps40
    go_wp2_with (go_at_call 50; refine (width_no _ _ hn).mono ?_; rintro e w' ⟨rfl, rfl⟩)
    go_ret2
    exact ⟨retIB (by simp [narrowV, narrowB_wide v n s hn]) (by rw [narrowB_wide v n s hn]), rfl⟩
  · obtain ⟨m, rfl⟩ := Int.eq_ofNat_of_zero_le (show 0 ≤ n by omega)
    have hm0 : 1 ≤ (m : Int) := by omega
    have hm1 : (m : Int) ≤ 64 := by omega
    have HB : Hid (narrowB v m s = fitsIn v m s) := by
      show _ = _
      simp [narrowB]; intros; omega
    have HV : Hid (IntKind.u64.wrap (IntKind.u64.wrap v * 2 ^ (64 - m)) / 2 ^ (64 - m) = v % 2 ^ m) := by
      show _ = _
      rw [widenU_eq0 _ m (by omega), IntKind.wrap_u64]
      exact Int.emod_emod_of_dvd _ ⟨_, by rw [Int.mul_comm]; exact (p64 m (by omega)).symm⟩
    have HM := mod_bd v m
    have H64 := p2le64 m (by omega)
    clear hn
    by_cases hv : v < 0 ∧ s = false
    · obtain ⟨hv0, rfl⟩ := hv
      go_enter Tryd.func40, Tryd.ntmps40
      go_wp2_with (go_at_call 50; refine (width_yes _ _ hm0 hm1).mono ?_; rintro e w' ⟨rfl, rfl⟩)
      go_ret2
      have e : narrowB v m false = false := by rw [HB.out]; simp [fitsIn]; omega
      exact ⟨retIB (by simp [narrowV, e]) e.symm, rfl⟩
    · have HW : Hid ((widen (v % 2 ^ m) m s = v) ↔ fitsIn v m s = true) := widen_narrow v m s (by omega) (by omega) h0 h1 (by intro e; by_cases h : v < 0 <;> simp_all)
      have HI : Hid (widenI (v % 2 ^ m) m s = widen (v % 2 ^ m) m s) := by show _ = _; simp [widenI]; omega
      by_cases hf : fitsIn v m s = true
      · have e : narrowB v m s = true := by rw [HB.out]; exact hf
        have hwd : widenI (v % 2 ^ m) m s = v := by rw [HI.out]; exact HW.out.2 hf
        have HE : Hid (narrowB v m s = true) := e
        clear hf e
        by_cases hv0 : v < 0
        · have hs : s = true := by cases s <;> simp_all
          subst hs
          go_enter Tryd.func40, Tryd.ntmps40
          go_wp2_with (first | (go_at_call 50; refine (width_yes _ _ hm0 hm1).mono ?_; rintro e w' ⟨rfl, rfl⟩) | (go_at_call 51; rw [HV.out]; refine (widen_any _ _ _ _ (by omega) (by omega)).mono ?_; rintro e w' ⟨rfl, rfl⟩; rw [hwd]))
          go_ret2
          exact ⟨retIB (by simp [narrowV, HE.out]) HE.out.symm, rfl⟩
        · clear hv
          have HV2 : Hid (IntKind.u64.wrap (v * 2 ^ (64 - m)) / 2 ^ (64 - m) = v % 2 ^ m) := widenU_eq0 v m (by omega)
          go_enter Tryd.func40, Tryd.ntmps40
          go_wp2_with (first | (go_at_call 50; refine (width_yes _ _ hm0 hm1).mono ?_; rintro e w' ⟨rfl, rfl⟩) | (go_at_call 51; rw [HV2.out]; refine (widen_any _ _ _ _ (by omega) (by omega)).mono ?_; rintro e w' ⟨rfl, rfl⟩; rw [hwd]))
          go_ret2
          exact ⟨retIB (by simp [narrowV, HE.out]) HE.out.symm, rfl⟩
      · have e : narrowB v m s = false := by rw [HB.out]; simpa using hf
        have hwd : (widenI (v % 2 ^ m) m s != v) = true := by rw [HI.out, bne_iff_ne]; exact fun c => hf (HW.out.1 c)
        have HE : Hid (narrowB v m s = false) := e
        clear hf e
        by_cases hv0 : v < 0
        · have hs : s = true := by cases s <;> simp_all
          subst hs
          go_enter Tryd.func40, Tryd.ntmps40
          go_wp2_with (first | (go_at_call 50; refine (width_yes _ _ hm0 hm1).mono ?_; rintro e w' ⟨rfl, rfl⟩) | (go_at_call 51; rw [HV.out]; refine (widen_any _ _ _ _ (by omega) (by omega)).mono ?_; rintro e w' ⟨rfl, rfl⟩))
          go_ret2
          exact ⟨retIB (by simp [narrowV, HE.out]) HE.out.symm, rfl⟩
        · clear hv
          have HV2 : Hid (IntKind.u64.wrap (v * 2 ^ (64 - m)) / 2 ^ (64 - m) = v % 2 ^ m) := widenU_eq0 v m (by omega)
          go_enter Tryd.func40, Tryd.ntmps40
          go_wp2_with (first | (go_at_call 50; refine (width_yes _ _ hm0 hm1).mono ?_; rintro e w' ⟨rfl, rfl⟩) | (go_at_call 51; rw [HV2.out]; refine (widen_any _ _ _ _ (by omega) (by omega)).mono ?_; rintro e w' ⟨rfl, rfl⟩))
          go_ret2
          exact ⟨retIB (by simp [narrowV, HE.out]) HE.out.symm, rfl⟩
end Go.Proofs.YtaooidckmepdeaaDoor
