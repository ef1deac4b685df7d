/- Rows of bytes in memory, and what has, Test, Bytes return over any such rows. -/
import Derived.Test.YtffnhmccoacglaaNum2
import Derived.Deep.QuietTactic
import Derived.BigQuiet
import Derived.WalkSmall
namespace Go.Proofs.Ytffnhmccoacglaa
set_option linter.unusedSimpArgs false
set_option linter.unusedVariables false
open Go.RowKit

/-- The slice's address leads to these bytes. -/
def Row (w : World) (a : Option Addr) (l : List Nat) : Prop :=
  ∀ i, i < l.length → ∃ b off, a = some ⟨b, off, none⟩ ∧ w.cell? ⟨b, off + i, none⟩ = some (.int .u8 ((l.getD i 0 : Nat) : Int)) ∧ l.getD i 0 < 256
theorem Row.below {w w' : World} {a : Option Addr} {l : List Nat} (h : Row w a l) (hb : Below w.heap.size w w') : Row w' a l := by
  intro i hi
  obtain ⟨b, off, e, hc, hl⟩ := h i hi
  exact ⟨b, off, e, by rw [hb.cell (World.block_lt_of_cell? _ _ hc)]; exact hc, hl⟩
theorem Row.drewN {w : World} {a : Option Addr} {l : List Nat} (h : Row w a l) (n : Nat) : Row (w.drewN n) a l := h
theorem Row.nil (w : World) (a : Option Addr) : Row w a [] := by intro i hi; simp at hi

def hasB (len : Nat) (k : Int) : Bool := decide (0 ≤ k ∧ k / 8 < len)
theorem has_any (a : Option Addr) (len cap : Nat) (k : Int) (w : World) :
    Calls Try.prog 47 #[.slice a len cap, .int .i64 k] w fun e w' => e = .returned (.bool (hasB len k)) ∧ w' = w := by
  by_cases h1 : 0 ≤ k
  · by_cases h2 : k / 8 < len
    all_goals
      go_enter Try.func47, Try.ntmps47
      go_wp2
      go_ret
      simp [hasB, h1, h2]
  · go_enter Try.func47, Try.ntmps47
    go_wp2
    go_ret
    simp [hasB]
    omega

theorem retB {a b : Bool} (h : a = b) : Ending.returned (.bool a) = .returned (.bool b) := by rw [h]
theorem getD_out (l : List Nat) (i : Nat) (h : l.length ≤ i) : l.getD i 0 = 0 := by simp [List.getD, List.getElem?_eq_none h]
theorem list_ext {l m : List Nat} (h : l.length = m.length) (h2 : ∀ i, i < l.length → l.getD i 0 = m.getD i 0) : l = m := by
  apply List.ext_getElem h
  intro i a b
  have := h2 i a
  simpa [List.getD, a, b] using this
/-- Bit k. -/
def tst (l : List Nat) (k : Nat) : Bool := l.getD (k / 8) 0 / 2 ^ (k % 8) % 2 == 1
def tstI (l : List Nat) (k : Int) : Bool := if k < 0 then false else tst l k.toNat
theorem and7 (k : Nat) (h : k ≤ 9223372036854775807) : bits .and .i64 (k : Int) 7 = ((k % 8 : Nat) : Int) := by
  have e2 : (BitVec.ofInt 64 (k : Int)).toNat = k := ofInt_u64 k (by omega)
  show IntKind.i64.wrap ((BitVec.ofInt 64 (k : Int) &&& BitVec.ofInt 64 7).toNat : Nat) = _
  rw [BitVec.toNat_and, e2, show (BitVec.ofInt 64 7).toNat = 2 ^ 3 - 1 by decide, Nat.and_two_pow_sub_one_eq_mod, IntKind.wrap_i64]
  omega
theorem u8_and1 (x : Nat) (h : x < 256) : bits .and .u8 (x : Int) 1 = ((x % 2 : Nat) : Int) := by
  rw [u8_and _ _ (by omega) (by omega) (by omega) (by omega), show ((1 : Int).toNat) = 2 ^ 1 - 1 by decide, Nat.and_two_pow_sub_one_eq_mod]
  simp
theorem div_lt256 (c n : Nat) (h : c < 256) : c / n < 256 := Nat.lt_of_le_of_lt (Nat.div_le_self _ _) h
theorem test_any (a : Option Addr) (cap : Nat) (l : List Nat) (k : Int) (w : World) (hr : Row w a l) (hl : l.length ≤ maxLen) (h1 : k ≤ 9223372036854775807) :
    Calls Try.prog 35 #[.slice a l.length cap, .int .i64 k] w fun e w' => e = .returned (.bool (tstI l k)) ∧ w' = w := by
  unfold maxLen at hl
  by_cases hh : hasB l.length k = true
  · have hh' : 0 ≤ k ∧ k / 8 < l.length := by simpa [hasB] using hh
    obtain ⟨m, rfl⟩ := Int.eq_ofNat_of_zero_le hh'.1
    obtain ⟨b, off, rfl, hc, hlt⟩ := hr (m / 8) (by omega)
    have HT : Hid (tstI l m = (l.getD (m / 8) 0 / 2 ^ (m % 8) % 2 == 1)) := by show _ = _; simp [tstI, tst]
    clear hr
    generalize l.getD (m / 8) 0 = c at *
    have h7 := and7 m (by omega)
    have hm8 : m % 8 < 8 := by omega
    obtain ⟨j, hj⟩ : ∃ j, j = m % 8 := ⟨_, rfl⟩
    rw [← hj] at h7 hm8
    have HJ : Hid (j = m % 8) := hj
    have h1' := u8_and1 (c / 2 ^ j) (div_lt256 _ _ hlt)
    have hq : ((c / 2 ^ j : Nat) : Int) = (c : Int) / 2 ^ j := by simp
    rw [hq] at h1'
    clear hj hq
    have hlt8 : (m : Int) / 8 < (l.length : Int) := hh'.2
    go_enter Try.func35, Try.ntmps35
    go_wp2_with (go_at_call 47; refine (has_any _ _ _ _ _).mono ?_; rintro e w' ⟨rfl, rfl⟩; rw [hh])
    go_ret
    refine ⟨retB ?_, rfl⟩
    rw [HT.out, ← HJ.out, show (c : Int) / 2 ^ j % 2 = ((c / 2 ^ j % 2 : Nat) : Int) by simp, Bool.eq_iff_iff]
    simp only [beq_iff_eq]
    omega
  · have hh2 : hasB l.length k = false := by simpa using hh
    have HT : Hid (tstI l k = false) := by
      show _ = _
      simp only [tstI, tst, hasB] at *
      split
      · rfl
      · rw [getD_out _ _ (by simp at hh; omega)]; simp
    clear hh
    go_enter Try.func35, Try.ntmps35
    go_wp2_with (go_at_call 47; refine (has_any _ _ _ _ _).mono ?_; rintro e w' ⟨rfl, rfl⟩; rw [hh2])
    go_ret
    exact ⟨by rw [HT.out]; rfl, rfl⟩

/-- Two rows of bytes. -/
theorem bytes_any (a : Option Addr) (capa : Nat) (l : List Nat) (b : Option Addr) (capb : Nat) (m : List Nat) (w : World) (ha : Row w a l) (hb : Row w b m) (hl : l.length ≤ maxLen) (hm : m.length ≤ maxLen) :
    Calls Try.prog 20 #[.slice a l.length capa, .slice b m.length capb] w fun e w' => e = .returned (.bool (decide (l = m))) ∧ ∃ n, w' = w.drewN n := by
  unfold maxLen at hl hm
  by_cases hlen : l.length = m.length
  · have hne : ((l.length : Int) != (m.length : Int)) = false := by simp [hlen]
    have HL : Hid (l.length = m.length) := hlen
    clear hlen
    go_enter Try.func20, Try.ntmps20
    go_wp2
    go_loopw [5] (fun i wr => ∃ k n : Nat, k ≤ l.length ∧ i = .int .i64 k ∧ wr = w.drewN n ∧ ∀ j, j < k → l.getD j 0 = m.getD j 0) (fun i _ => l.length - (intOf i).toNat)
    case atStart => exact ⟨0, 0, by omega, rfl, rfl, by intro j hj; omega⟩
    case round =>
      obtain ⟨k, n, hk, rfl, rfl, hsame⟩ := hrel
      have HS : Hid (∀ j, j < k → l.getD j 0 = m.getD j 0) := hsame
      clear hsame
      by_cases hlt : k < l.length
      · obtain ⟨b1, o1, rfl, c1, l1⟩ := ha k hlt
        obtain ⟨b2, o2, rfl, c2, l2⟩ := hb k (by rw [← HL.out]; exact hlt)
        have hltm : k < m.length := by rw [← HL.out]; exact hlt
        have HQ : Hid (l.getD k 0 = m.getD k 0 → ∀ j, j < k + 1 → l.getD j 0 = m.getD j 0) := by
          intro e j hj
          by_cases hjk : j = k
          · subst hjk; exact e
          · exact HS.out j (by omega)
        have HD : Hid (l.getD k 0 ≠ m.getD k 0 → l ≠ m) := by intro e c; rw [c] at e; exact e rfl
        clear ha hb
        have hltI : (k : Int) < (l.length : Int) := by omega
        have hltJ : (k : Int) < (m.length : Int) := by omega
        generalize l.getD k 0 = x at *
        generalize m.getD k 0 = y at *
        go_wp2
        go_quiet (fail)
        go_wp2
        · have hxy : ((x : Int) != (y : Int)) = true := by assumption
          go_ret
          exact ⟨retB (decide_eq_false (HD.out (by rw [bne_iff_ne] at hxy; omega))).symm, n + nq, World.drewN_drewN _ _ _⟩
        · have hxy : ((x : Int) != (y : Int)) = false := by assumption
          have hxy2 : x = y := by have := WalkArith.int_eq' hxy; omega
          exact ⟨⟨k + 1, n + nq, by omega, by go_num, rfl, HQ.out hxy2⟩, by simp [intOf]; omega⟩
      · go_wp2
        go_ret
        refine ⟨retB (decide_eq_true ?_).symm, n, rfl⟩
        exact list_ext HL.out (fun i hi => HS.out i (by omega))
  · have hne : ((l.length : Int) != (m.length : Int)) = true := by rw [bne_iff_ne]; omega
    have HL : Hid (l ≠ m) := fun c => hlen (by rw [c])
    go_enter Try.func20, Try.ntmps20
    go_wp2
    go_ret
    exact ⟨retB (decide_eq_false HL.out).symm, 0, rfl⟩
end Go.Proofs.Ytffnhmccoacglaa
