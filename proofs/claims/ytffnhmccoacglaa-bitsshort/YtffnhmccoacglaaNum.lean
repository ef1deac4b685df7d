/- What isWidth, fits, place, has, Zig, Zag, Widen, Narrow (of bits) and their likes of the document's own answer return, for every argument of their types. -/
import Derived.Test.YtffnhmccoacglaaRows
import Derived.Test.YtffnhmccoacglaaMath
import Derived.ProofKit
import Derived.Below
namespace Go.Proofs.Ytffnhmccoacglaa
set_option linter.unusedSimpArgs false
set_option linter.unusedVariables false
open Go.RowKit
theorem retI {k : IntKind} {a b : Int} (h : a = b) : Ending.returned (.int k a) = .returned (.int k b) := by rw [h]
theorem retIB {k : IntKind} {a b : Int} {c d : Bool} (h : a = b) (h2 : c = d) : Ending.returned (.tuple #[.int k a, .bool c]) = .returned (.tuple #[.int k b, .bool d]) := by rw [h, h2]

theorem width_yes (v : Int) (w : World) (h1 : 1 ≤ v) (h2 : v ≤ 64) : Calls Try.prog 46 #[.int .i64 v] w fun e w' => e = .returned (.bool true) ∧ w' = w := by
  go_enter Try.func46, Try.ntmps46
  go_wp2
  go_ret
  simp [h1, h2]
theorem width_no (v : Int) (w : World) (h : v < 1 ∨ 64 < v) : Calls Try.prog 46 #[.int .i64 v] w fun e w' => e = .returned (.bool false) ∧ w' = w := by
  rcases h with h | h
  · go_enter Try.func46, Try.ntmps46
    go_wp2
    go_ret
    simp [show ¬ 1 ≤ v by omega]
  · have h1 : 1 ≤ v := by omega
    go_enter Try.func46, Try.ntmps46
    go_wp2
    go_ret
    simp [h1]
    omega
def fitsB (len : Nat) (at' size : Int) : Bool := decide (1 ≤ size ∧ size ≤ 8 ∧ 0 ≤ at' ∧ at' ≤ len - size)
theorem fits_any (a : Option Addr) (len cap : Nat) (at' size : Int) (w : World) (hl : len ≤ maxLen) :
    Calls Try.prog 43 #[.slice a len cap, .int .i64 at', .int .i64 size] w fun e w' => e = .returned (.bool (fitsB len at' size)) ∧ w' = w := by
  unfold maxLen at hl
  by_cases h1 : 1 ≤ size
  · by_cases h2 : size ≤ 8
    · by_cases h3 : 0 ≤ at'
      · by_cases h4 : at' ≤ len - size
        all_goals
          go_enter Try.func43, Try.ntmps43
          go_wp2
          go_ret
          simp [fitsB, h1, h2, h3, h4]
      · go_enter Try.func43, Try.ntmps43
        go_wp2
        go_ret
        simp [fitsB]
        omega
    · go_enter Try.func43, Try.ntmps43
      go_wp2
      go_ret
      simp [fitsB]
      omega
  · go_enter Try.func43, Try.ntmps43
    go_wp2
    go_ret
    simp [fitsB]
    omega
def placeI (i size : Int) (big : Bool) : Int := if big then size - 1 - i else i
theorem place_any (i size : Int) (big : Bool) (w : World) (h0 : 0 ≤ i) (h1 : i < size) (h2 : size ≤ 8) :
    Calls Try.prog 44 #[.int .i64 i, .int .i64 size, .bool big] w fun e w' => e = .returned (.int .i64 (placeI i size big)) ∧ w' = w := by
  cases big
  all_goals
    go_enter Try.func44, Try.ntmps44
    go_wp2
    go_ret
    exact ⟨rfl, rfl⟩
theorem zig_any (v : Int) (w : World) (h0 : -9223372036854775808 ≤ v) (h1 : v ≤ 9223372036854775807) :
    Calls Try.prog 26 #[.int .i64 v] w fun e w' => e = .returned (.int .u64 (zig v)) ∧ w' = w := by
  go_enter Try.func26, Try.ntmps26
  go_wp2
  go_ret
  exact ⟨retI (zig_eq v h0 h1), rfl⟩
theorem rzig_any (v : Int) (w : World) (h0 : -9223372036854775808 ≤ v) (h1 : v ≤ 9223372036854775807) :
    Calls Try.prog 27 #[.int .i64 v] w fun e w' => e = .returned (.int .u64 (zig v)) ∧ w' = w := by
  go_enter Try.func27, Try.ntmps27
  go_wp2
  go_ret
  exact ⟨retI (zig_eq v h0 h1), rfl⟩
theorem zag_any (u : Int) (w : World) (h0 : 0 ≤ u) (h1 : u ≤ 18446744073709551615) :
    Calls Try.prog 28 #[.int .u64 u] w fun e w' => e = .returned (.int .i64 (zag u)) ∧ w' = w := by
  go_enter Try.func28, Try.ntmps28
  go_wp2
  go_ret
  exact ⟨retI (zag_eq u h0 h1), rfl⟩
theorem rzag_any (u : Int) (w : World) (h0 : 0 ≤ u) (h1 : u ≤ 18446744073709551615) :
    Calls Try.prog 29 #[.int .u64 u] w fun e w' => e = .returned (.int .i64 (zag u)) ∧ w' = w := by
  go_enter Try.func29, Try.ntmps29
  go_wp2
  go_ret
  exact ⟨retI (zag_eq u h0 h1), rfl⟩

def widenI (u n : Int) (s : Bool) : Int := if n < 1 ∨ 64 < n then 0 else widen u n.toNat s
theorem widen_any (u n : Int) (s : Bool) (w : World) (h0 : 0 ≤ u) (h1 : u ≤ 18446744073709551615) :
    Calls Try.prog 32 #[.int .u64 u, .int .i64 n, .bool s] w fun e w' => e = .returned (.int .i64 (widenI u n s)) ∧ w' = w := by
  by_cases hn : n < 1 ∨ 64 < n
  · go_enter Try.func32, Try.ntmps32
    go_wp2_with (go_at_call 46; refine (width_no _ _ hn).mono ?_; rintro e w' ⟨rfl, rfl⟩)
    go_ret
    exact ⟨retI (by simp [widenI, hn]), rfl⟩
  · obtain ⟨m, rfl⟩ := Int.eq_ofNat_of_zero_le (show 0 ≤ n by omega)
    have hm0 : 1 ≤ (m : Int) := by omega
    have hm1 : (m : Int) ≤ 64 := by omega
    have e2 : widenI u m s = widen u m s := by simp [widenI]; omega
    have HE : Hid (widenI u m s = widen u m s) := e2
    clear e2 hn
    cases s
    · go_enter Try.func32, Try.ntmps32
      go_wp2_with (go_at_call 46; refine (width_yes _ _ hm0 hm1).mono ?_; rintro e w' ⟨rfl, rfl⟩)
      go_ret
      refine ⟨retI ?_, rfl⟩
      rw [HE.out, ← widenU_eq u m (by omega)]
    · go_enter Try.func32, Try.ntmps32
      go_wp2_with (go_at_call 46; refine (width_yes _ _ hm0 hm1).mono ?_; rintro e w' ⟨rfl, rfl⟩)
      go_ret
      refine ⟨retI ?_, rfl⟩
      rw [HE.out, ← widenS_eq u m (by omega) (by omega)]

def narrowB (v n : Int) (s : Bool) : Bool := decide (1 ≤ n ∧ n ≤ 64) && fitsIn v n.toNat s
def narrowV (v n : Int) (s : Bool) : Int := if narrowB v n s then v % 2 ^ n.toNat else 0
theorem narrowB_wide (v n : Int) (s : Bool) (hn : n < 1 ∨ 64 < n) : narrowB v n s = false := by
  simp [narrowB]; intro a b; omega
theorem narrow_any (v n : Int) (s : Bool) (w : World) (h0 : -9223372036854775808 ≤ v) (h1 : v ≤ 9223372036854775807) :
    Calls Try.prog 30 #[.int .i64 v, .int .i64 n, .bool s] w fun e w' => e = .returned (.tuple #[.int .u64 (narrowV v n s), .bool (narrowB v n s)]) ∧ w' = w := by
  by_cases hn : n < 1 ∨ 64 < n
  · go_enter Try.func30, Try.ntmps30
    go_wp2_with (go_at_call 46; refine (width_no _ _ hn).mono ?_; rintro e w' ⟨rfl, rfl⟩)
    go_ret2
    exact ⟨retIB (by simp [narrowV, narrowB_wide v n s hn]) (by rw [narrowB_wide v n s hn]), rfl⟩
  · obtain ⟨m, rfl⟩ := Int.eq_ofNat_of_zero_le (show 0 ≤ n by omega)
    have hm0 : 1 ≤ (m : Int) := by omega
    have hm1 : (m : Int) ≤ 64 := by omega
    have HB : Hid (narrowB v m s = fitsIn v m s) := by
      show _ = _
      simp [narrowB]; intros; omega
    have HV : Hid (IntKind.u64.wrap (IntKind.u64.wrap v * 2 ^ (64 - m)) / 2 ^ (64 - m) = v % 2 ^ m) := by
      show _ = _
      rw [widenU_eq0 _ m (by omega), IntKind.wrap_u64]
      exact Int.emod_emod_of_dvd _ ⟨_, by rw [Int.mul_comm]; exact (p64 m (by omega)).symm⟩
    have HM := mod_bd v m
    have H64 := p2le64 m (by omega)
    clear hn
    by_cases hv : v < 0 ∧ s = false
    · obtain ⟨hv0, rfl⟩ := hv
      go_enter Try.func30, Try.ntmps30
      go_wp2_with (go_at_call 46; refine (width_yes _ _ hm0 hm1).mono ?_; rintro e w' ⟨rfl, rfl⟩)
      go_ret2
      have e : narrowB v m false = false := by rw [HB.out]; simp [fitsIn]; omega
      exact ⟨retIB (by simp [narrowV, e]) e.symm, rfl⟩
    · have HW : Hid ((widen (v % 2 ^ m) m s = v) ↔ fitsIn v m s = true) := widen_narrow v m s (by omega) (by omega) h0 h1 (by intro e; by_cases h : v < 0 <;> simp_all)
      have HI : Hid (widenI (v % 2 ^ m) m s = widen (v % 2 ^ m) m s) := by show _ = _; simp [widenI]; omega
      by_cases hf : fitsIn v m s = true
      · have e : narrowB v m s = true := by rw [HB.out]; exact hf
        have hwd : widenI (v % 2 ^ m) m s = v := by rw [HI.out]; exact HW.out.2 hf
        have HE : Hid (narrowB v m s = true) := e
        clear hf e
        by_cases hv0 : v < 0
        · have hs : s = true := by cases s <;> simp_all
          subst hs
          go_enter Try.func30, Try.ntmps30
          go_wp2_with (first | (go_at_call 46; refine (width_yes _ _ hm0 hm1).mono ?_; rintro e w' ⟨rfl, rfl⟩) | (go_at_call 32; rw [HV.out]; refine (widen_any _ _ _ _ (by omega) (by omega)).mono ?_; rintro e w' ⟨rfl, rfl⟩; rw [hwd]))
          go_ret2
          exact ⟨retIB (by simp [narrowV, HE.out]) HE.out.symm, rfl⟩
        · clear hv
          have HV2 : Hid (IntKind.u64.wrap (v * 2 ^ (64 - m)) / 2 ^ (64 - m) = v % 2 ^ m) := widenU_eq0 v m (by omega)
          go_enter Try.func30, Try.ntmps30
          go_wp2_with (first | (go_at_call 46; refine (width_yes _ _ hm0 hm1).mono ?_; rintro e w' ⟨rfl, rfl⟩) | (go_at_call 32; rw [HV2.out]; refine (widen_any _ _ _ _ (by omega) (by omega)).mono ?_; rintro e w' ⟨rfl, rfl⟩; rw [hwd]))
          go_ret2
          exact ⟨retIB (by simp [narrowV, HE.out]) HE.out.symm, rfl⟩
      · have e : narrowB v m s = false := by rw [HB.out]; simpa using hf
        have hwd : (widenI (v % 2 ^ m) m s != v) = true := by rw [HI.out, bne_iff_ne]; exact fun c => hf (HW.out.1 c)
        have HE : Hid (narrowB v m s = false) := e
        clear hf e
        by_cases hv0 : v < 0
        · have hs : s = true := by cases s <;> simp_all
          subst hs
          go_enter Try.func30, Try.ntmps30
          go_wp2_with (first | (go_at_call 46; refine (width_yes _ _ hm0 hm1).mono ?_; rintro e w' ⟨rfl, rfl⟩) | (go_at_call 32; rw [HV.out]; refine (widen_any _ _ _ _ (by omega) (by omega)).mono ?_; rintro e w' ⟨rfl, rfl⟩))
          go_ret2
          exact ⟨retIB (by simp [narrowV, HE.out]) HE.out.symm, rfl⟩
        · clear hv
          have HV2 : Hid (IntKind.u64.wrap (v * 2 ^ (64 - m)) / 2 ^ (64 - m) = v % 2 ^ m) := widenU_eq0 v m (by omega)
          go_enter Try.func30, Try.ntmps30
          go_wp2_with (first | (go_at_call 46; refine (width_yes _ _ hm0 hm1).mono ?_; rintro e w' ⟨rfl, rfl⟩) | (go_at_call 32; rw [HV2.out]; refine (widen_any _ _ _ _ (by omega) (by omega)).mono ?_; rintro e w' ⟨rfl, rfl⟩))
          go_ret2
          exact ⟨retIB (by simp [narrowV, HE.out]) HE.out.symm, rfl⟩

theorem rwiden_any (u n : Int) (s : Bool) (w : World) (h0 : 0 ≤ u) (h1 : u ≤ 18446744073709551615) :
    Calls Try.prog 33 #[.int .u64 u, .int .i64 n, .bool s] w fun e w' => e = .returned (.int .i64 (widenI u n s)) ∧ w' = w := by
  by_cases hn : n < 1
  · go_enter Try.func33, Try.ntmps33
    go_wp2
    go_ret
    exact ⟨retI (by simp [widenI, hn]), rfl⟩
  by_cases hn2 : 64 < n
  · go_enter Try.func33, Try.ntmps33
    go_wp2
    go_ret
    exact ⟨retI (by simp [widenI, hn2]), rfl⟩
  obtain ⟨m, rfl⟩ := Int.eq_ofNat_of_zero_le (show 0 ≤ n by omega)
  have HI : Hid (widenI u m s = widen u m s) := by show _ = _; simp [widenI]; omega
  by_cases h64 : (m : Int) = 64
  · have h64' : ((m : Int) == 64) = true := by simpa using h64
    have hm : m = 64 := by omega
    have HE : Hid (widen u m s = wrap64 u) := by
      show _ = _
      subst hm
      unfold widen
      have e : u % 2 ^ 64 = u := Int.emod_eq_of_lt h0 (by omega)
      rw [e]
      cases s
      · rfl
      · simp; unfold wrap64; split <;> omega
    clear h64 hm
    go_enter Try.func33, Try.ntmps33
    go_wp2
    go_ret
    exact ⟨retI (by rw [HI.out, HE.out]), rfl⟩
  · have h64' : ((m : Int) == 64) = false := by simpa using h64
    have hm64 : m < 64 := by omega
    have hm : (m : Int) < 64 := by omega
    have hm1 : 1 ≤ (m : Int) := by omega
    have HA : Hid (bits .and .u64 u (IntKind.u64.wrap (IntKind.u64.wrap (2 ^ m) - 1)) = u % 2 ^ m) := and_mask u m hm64 h0 h1
    obtain ⟨b0, b1⟩ := mod_bd u m
    have hs := p2succ m (by omega)
    have hl := p2lt64 m hm64
    have hp := p2pos (m - 1)
    cases s
    · clear hs hl hp
      go_enter Try.func33, Try.ntmps33
      go_wp2
      go_ret
      exact ⟨retI (by rw [HI.out, HA.out]; simp [widen]), rfl⟩
    · by_cases hr : u % 2 ^ m < 2 ^ (m - 1)
      · have hd : (bits .and .u64 u (IntKind.u64.wrap (IntKind.u64.wrap (2 ^ m) - 1)) / 2 ^ (m - 1) == 1) = false := by
          rw [HA.out, Int.ediv_eq_zero_of_lt b0 hr]; rfl
        have HR : Hid (widen u m true = wrap64 (u % 2 ^ m)) := by
          show _ = _
          simp only [widen, if_true, hr]
          exact (w64 _ (by omega) (by omega)).symm
        clear hs hl hp hr
        go_enter Try.func33, Try.ntmps33
        go_wp2
        go_ret
        exact ⟨retI (by rw [HI.out, HR.out, HA.out]), rfl⟩
      · have hd : (bits .and .u64 u (IntKind.u64.wrap (IntKind.u64.wrap (2 ^ m) - 1)) / 2 ^ (m - 1) == 1) = true := by
          rw [HA.out, beq_iff_eq]
          apply Int.le_antisymm
          · exact Int.lt_add_one_iff.1 (Int.ediv_lt_of_lt_mul hp (by omega))
          · exact Int.le_ediv_of_mul_le hp (by omega)
        have HR : Hid (widen u m true = wrap64 (wrap64 (u % 2 ^ m) - wrap64 (2 ^ m))) := by
          show _ = _
          simp only [widen, if_true, hr, if_false]
          unfold wrap64
          omega
        clear hs hl hp hr
        go_enter Try.func33, Try.ntmps33
        go_wp2
        go_ret
        exact ⟨retI (by rw [HI.out, HR.out, HA.out]), rfl⟩

/-- Signed, a width below 64. -/
theorem rnarrowS (v : Int) (m : Nat) (w : World) (h0 : -9223372036854775808 ≤ v) (h1 : v ≤ 9223372036854775807) (hm0 : 1 ≤ (m : Int)) (hm1 : (m : Int) < 64) :
    Calls Try.prog 31 #[.int .i64 v, .int .i64 m, .bool true] w fun e w' => e = .returned (.tuple #[.int .u64 (narrowV v m true), .bool (narrowB v m true)]) ∧ w' = w := by
  have HB : Hid (narrowB v m true = fitsIn v m true) := by show _ = _; simp [narrowB]; intros; omega
  have HV : Hid (bits .and .u64 (IntKind.u64.wrap v) (IntKind.u64.wrap (IntKind.u64.wrap (2 ^ m) - 1)) = v % 2 ^ m) := by
    show _ = _
    have := IntKind.wrap_u64 v
    rw [and_mask _ m (by omega) (by omega) (by omega), IntKind.wrap_u64]
    exact Int.emod_emod_of_dvd _ ⟨_, by rw [Int.mul_comm]; exact (p64 m (by omega)).symm⟩
  have hp : (2 : Int) ^ (m - 1) ≤ 4611686018427387904 := by have := p2le (m - 1) 62 (by omega); simpa using this
  have hp0 := p2pos (m - 1)
  have h64 : ((m : Int) == 64) = false := by rw [beq_eq_false_iff_ne]; omega
  have HN : Hid (¬ (v < -2 ^ (m - 1) ∨ 2 ^ (m - 1) - 1 < v) → narrowB v m true = true ∧ narrowV v m true = v % 2 ^ m) := by
    intro h
    have e : narrowB v m true = true := by rw [HB.out]; simp [fitsIn]; omega
    exact ⟨e, by simp [narrowV, e]⟩
  have HN2 : Hid (v < -2 ^ (m - 1) ∨ 2 ^ (m - 1) - 1 < v → narrowB v m true = false ∧ narrowV v m true = 0) := by
    intro h
    have e : narrowB v m true = false := by rw [HB.out]; simp [fitsIn]; omega
    exact ⟨e, by simp [narrowV, e]⟩
  clear HB
  by_cases c1 : v < -2 ^ (m - 1)
  · go_enter Try.func31, Try.ntmps31
    go_wp2
    go_ret2
    have := HN2.out (.inl c1)
    exact ⟨retIB this.2.symm this.1.symm, rfl⟩
  · by_cases c2 : 2 ^ (m - 1) - 1 < v
    · go_enter Try.func31, Try.ntmps31
      go_wp2
      go_ret2
      have := HN2.out (.inr c2)
      exact ⟨retIB this.2.symm this.1.symm, rfl⟩
    · go_enter Try.func31, Try.ntmps31
      go_wp2
      go_ret2
      have := HN.out (by omega)
      exact ⟨retIB (by rw [this.2]; exact HV.out) this.1.symm, rfl⟩
end Go.Proofs.Ytffnhmccoacglaa
