/- What the document's own Narrow returns, for every argument. -/
import Derived.Test.YtffnhmccoacglaaNum
namespace Go.Proofs.Ytffnhmccoacglaa
set_option linter.unusedSimpArgs false
set_option linter.unusedVariables false
open Go.RowKit
theorem rnarrow_wide (v n : Int) (s : Bool) (w : World) (hn : n < 1 ∨ 64 < n) :
    Calls Try.prog 31 #[.int .i64 v, .int .i64 n, .bool s] w fun e w' => e = .returned (.tuple #[.int .u64 (narrowV v n s), .bool (narrowB v n s)]) ∧ w' = w := by
  have e := narrowB_wide v n s hn
  have HE : Hid (narrowB v n s = false) := e
  clear e
  rcases hn with hn | hn
  · go_enter Try.func31, Try.ntmps31
    go_wp2
    go_ret2
    exact ⟨retIB (by simp [narrowV, HE.out]) HE.out.symm, rfl⟩
  · have hn1 : ¬ n < 1 := by omega
    go_enter Try.func31, Try.ntmps31
    go_wp2
    go_ret2
    exact ⟨retIB (by simp [narrowV, HE.out]) HE.out.symm, rfl⟩
theorem rnarrow_neg (v : Int) (m : Nat) (w : World) (hv : v < 0) (hm0 : 1 ≤ (m : Int)) (hm1 : (m : Int) ≤ 64) :
    Calls Try.prog 31 #[.int .i64 v, .int .i64 m, .bool false] w fun e w' => e = .returned (.tuple #[.int .u64 (narrowV v m false), .bool (narrowB v m false)]) ∧ w' = w := by
  have e : narrowB v m false = false := by simp [narrowB, fitsIn]; intros; omega
  have HE : Hid (narrowB v m false = false) := e
  clear e
  go_enter Try.func31, Try.ntmps31
  go_wp2
  go_ret2
  exact ⟨retIB (by simp [narrowV, HE.out]) HE.out.symm, rfl⟩
theorem narrowV_same (v : Int) (m : Nat) (s : Bool) (h0 : 0 ≤ v) (h1 : v < 2 ^ m) (h : narrowB v m s = true) : narrowV v m s = v := by
  simp only [narrowV, h, if_true, Int.toNat_natCast]
  exact Int.emod_eq_of_lt h0 h1
theorem rnarrow_64 (v : Int) (m : Nat) (s : Bool) (w : World) (h0 : -9223372036854775808 ≤ v) (h1 : v ≤ 9223372036854775807) (hs : s = false → 0 ≤ v) (hm : m = 64) :
    Calls Try.prog 31 #[.int .i64 v, .int .i64 m, .bool s] w fun e w' => e = .returned (.tuple #[.int .u64 (narrowV v m s), .bool (narrowB v m s)]) ∧ w' = w := by
  have e : narrowB v m s = true := by
    subst hm; cases s
    · have := hs rfl; simp [narrowB, fitsIn]; omega
    · simp [narrowB, fitsIn]; omega
  have HE : Hid (narrowB v m s = true) := e
  have HV : Hid (narrowV v m s = v % 18446744073709551616) := by show _ = _; simp [narrowV, e]; subst hm; rfl
  have h64 : ((m : Int) == 64) = true := by rw [beq_iff_eq]; omega
  have hm0 : 1 ≤ (m : Int) := by omega
  have hm1 : (m : Int) ≤ 64 := by omega
  clear hm e
  cases s
  · have hv := hs rfl
    clear hs
    go_enter Try.func31, Try.ntmps31
    go_wp2
    go_ret2
    exact ⟨retIB (by rw [HV.out]; omega) HE.out.symm, rfl⟩
  · clear hs
    go_enter Try.func31, Try.ntmps31
    go_wp2
    go_ret2
    exact ⟨retIB (by rw [HV.out, IntKind.wrap_u64]) HE.out.symm, rfl⟩
theorem rnarrowU (v : Int) (m : Nat) (w : World) (h0 : 0 ≤ v) (h1 : v ≤ 9223372036854775807) (hm0 : 1 ≤ (m : Int)) (hm1 : (m : Int) < 64) :
    Calls Try.prog 31 #[.int .i64 v, .int .i64 m, .bool false] w fun e w' => e = .returned (.tuple #[.int .u64 (narrowV v m false), .bool (narrowB v m false)]) ∧ w' = w := by
  have HB : Hid (narrowB v m false = decide (v < 2 ^ m)) := by show _ = _; simp [narrowB, fitsIn, h0]; intros; omega
  have h64 : ((m : Int) == 64) = false := by rw [beq_eq_false_iff_ne]; omega
  by_cases h63 : m = 63
  · have e63 : ((m : Int) == 63) = true := by rw [beq_iff_eq]; omega
    have HE : Hid (narrowB v m false = true) := by show _ = _; rw [HB.out]; subst h63; simp; omega
    have HV : Hid (narrowV v m false = v) := narrowV_same v m false h0 (by subst h63; omega) HE.out
    clear h63
    go_enter Try.func31, Try.ntmps31
    go_wp2
    go_ret2
    exact ⟨retIB HV.out.symm HE.out.symm, rfl⟩
  · have e63 : ((m : Int) == 63) = false := by rw [beq_eq_false_iff_ne]; omega
    have hp : (2 : Int) ^ m ≤ 4611686018427387904 := by have := p2le m 62 (by omega); simpa using this
    have hp0 := p2pos m
    by_cases hc : 2 ^ m - 1 < v
    · have HE : Hid (narrowB v m false = false) := by show _ = _; rw [HB.out]; simp; omega
      go_enter Try.func31, Try.ntmps31
      go_wp2
      go_ret2
      exact ⟨retIB (by simp [narrowV, HE.out]) HE.out.symm, rfl⟩
    · have HE : Hid (narrowB v m false = true) := by show _ = _; rw [HB.out]; simp; omega
      have HV : Hid (narrowV v m false = v) := narrowV_same v m false h0 (by omega) HE.out
      go_enter Try.func31, Try.ntmps31
      go_wp2
      go_ret2
      exact ⟨retIB HV.out.symm HE.out.symm, rfl⟩
theorem rnarrow_any (v n : Int) (s : Bool) (w : World) (h0 : -9223372036854775808 ≤ v) (h1 : v ≤ 9223372036854775807) :
    Calls Try.prog 31 #[.int .i64 v, .int .i64 n, .bool s] w fun e w' => e = .returned (.tuple #[.int .u64 (narrowV v n s), .bool (narrowB v n s)]) ∧ w' = w := by
  by_cases hn : n < 1 ∨ 64 < n
  · exact rnarrow_wide v n s w hn
  obtain ⟨m, rfl⟩ := Int.eq_ofNat_of_zero_le (show 0 ≤ n by omega)
  by_cases hv : v < 0 ∧ s = false
  · obtain ⟨hv0, rfl⟩ := hv
    exact rnarrow_neg v m w hv0 (by omega) (by omega)
  have hs : s = false → 0 ≤ v := by intro e; by_cases c : v < 0 <;> simp_all
  by_cases hm : m = 64
  · exact rnarrow_64 v m s w h0 h1 hs hm
  cases s
  · exact rnarrowU v m w (hs rfl) h1 (by omega) (by omega)
  · exact rnarrowS v m w h0 h1 (by omega) (by omega)
end Go.Proofs.Ytffnhmccoacglaa
