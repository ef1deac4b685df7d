/- Set (of bits): a copy with one bit set or not, of any bytes, 2000 at most. -/
import Derived.Test.YtffnhmccoacglaaCln
namespace Go.Proofs.Ytffnhmccoacglaa
set_option linter.unusedSimpArgs false
set_option linter.unusedVariables false
open Go.RowKit
/-- A byte with bit j so. -/
def sb (c j : Nat) (on : Bool) : Nat := if on then c ||| 2 ^ j else c &&& (255 - 2 ^ j)
theorem sb_lt : ∀ (c : Fin 256) (j : Fin 8) (on : Bool), sb c.val j.val on < 256 := by decide +kernel
theorem sb_at : ∀ (c : Fin 256) (j : Fin 8) (on : Bool), (sb c.val j.val on / 2 ^ j.val % 2 == 1) = on := by decide +kernel
theorem sb_other : ∀ (c : Fin 256) (j i : Fin 8) (on : Bool), i ≠ j → sb c.val j.val on / 2 ^ i.val % 2 = c.val / 2 ^ i.val % 2 := by decide +kernel
def setL (l : List Nat) (k : Int) (on : Bool) : List Nat := if hasB l.length k then l.set (k.toNat / 8) (sb (l.getD (k.toNat / 8) 0) (k.toNat % 8) on) else l
theorem setL_length (l : List Nat) (k : Int) (on : Bool) : (setL l k on).length = l.length := by unfold setL; split <;> simp
theorem getD_set (l : List Nat) (i j c : Nat) (h : j < l.length) : (l.set i c).getD j 0 = if i = j then c else l.getD j 0 := by
  simp only [List.getD, List.getElem?_set]
  split
  · rename_i e; subst e; simp [h]
  · rfl
theorem set_lt (l : List Nat) (i c : Nat) (h : ∀ j, l.getD j 0 < 256) (hc : c < 256) : ∀ j, (l.set i c).getD j 0 < 256 := by
  intro j
  by_cases hj : j < l.length
  · rw [getD_set l i j c hj]; split
    · exact hc
    · exact h j
  · rw [getD_out _ _ (by simp; omega)]; omega
theorem setL_lt (l : List Nat) (k : Int) (on : Bool) (h : ∀ j, l.getD j 0 < 256) : ∀ j, (setL l k on).getD j 0 < 256 := by
  unfold setL
  split
  · exact set_lt l _ _ h (sb_lt ⟨_, h _⟩ ⟨k.toNat % 8, by omega⟩ on)
  · exact h
theorem p2u8 (j : Nat) (h : j < 8) : (2 : Nat) ^ j ≤ 128 := by
  have := Nat.pow_le_pow_right (n := 2) (by decide) (show j ≤ 7 by omega)
  omega
theorem or_bit (c j : Nat) (hc : c < 256) (hj : j < 8) : bits .or .u8 (c : Int) (2 ^ j) = ((sb c j true : Nat) : Int) := by
  have := p2u8 j hj
  have e : ((2 : Int) ^ j) = ((2 ^ j : Nat) : Int) := by simp
  rw [e, u8_or_nat _ _ hc (by omega)]
  simp [sb]
theorem not_bit (c j : Nat) (hc : c < 256) (hj : j < 8) : bits .andNot .u8 (c : Int) (2 ^ j) = ((sb c j false : Nat) : Int) := by
  have := p2u8 j hj
  have e : ((2 : Int) ^ j) = ((2 ^ j : Nat) : Int) := by simp
  rw [e, u8_andNot_nat _ _ hc (by omega)]
  simp [sb]
set_option maxRecDepth 100000 in
theorem set_any (a : Option Addr) (cap : Nat) (l : List Nat) (k : Int) (on : Bool) (w : World) (hr : Row w a l) (hl : l.length ≤ 2000) (hk : k ≤ 9223372036854775807) :
    Calls Try.prog 34 #[.slice a l.length cap, .int .i64 k, .bool on] w fun e w' => (∃ g, e = .returned (.slice (some ⟨g, 0, none⟩) l.length l.length) ∧ Own w.heap.size w' g l.length (setL l k on)) ∧ Below w.heap.size w w' := by
  by_cases hh : hasB l.length k = true
  · have hh' : 0 ≤ k ∧ k / 8 < l.length := by simpa [hasB] using hh
    obtain ⟨m, rfl⟩ := Int.eq_ofNat_of_zero_le hh'.1
    obtain ⟨j, hj⟩ : ∃ j, j = m % 8 := ⟨_, rfl⟩
    have h7 := and7 m (by omega)
    rw [← hj] at h7
    have hj8 : j < 8 := by omega
    have hlt8 : (m : Int) / 8 < (l.length : Int) := hh'.2
    have hc256 := hr.lt (m / 8)
    have HS : Hid (setL l m on = l.set (m / 8) (sb (l.getD (m / 8) 0) j on)) := by show _ = _; simp only [setL, hh, if_true, Int.toNat_natCast, hj]
    have hp := p2u8 j hj8
    have hpI : (2 : Int) ^ j ≤ 128 := by have e : ((2 : Int) ^ j) = ((2 ^ j : Nat) : Int) := by simp
                                         omega
    have hp0 := p2pos j
    clear hj hh'
    cases on
    · have hb := not_bit (l.getD (m / 8) 0) j hc256 hj8
      go_enter Try.func34, Try.ntmps34
      go_wp2_with fail
      refine (clone_any a cap l w hr hl).mono ?_
      rintro e w1 ⟨⟨g, rfl, hown⟩, hbel⟩
      have hcell := hown.cell (m / 8) (by omega)
      have hfree := hown.free (m / 8)
      have hge := hown.ge.1
      generalize l.getD (m / 8) 0 = c at *
      go_wp2_with (go_at_call 47; refine (has_any _ _ _ _ _).mono ?_; rintro e w' ⟨rfl, rfl⟩; rw [hh])
      go_ret
      exact ⟨⟨g, rfl, by rw [HS.out]; exact hown.store _ _⟩, hbel.setCell hge _⟩
    · have hb := or_bit (l.getD (m / 8) 0) j hc256 hj8
      go_enter Try.func34, Try.ntmps34
      go_wp2_with fail
      refine (clone_any a cap l w hr hl).mono ?_
      rintro e w1 ⟨⟨g, rfl, hown⟩, hbel⟩
      have hcell := hown.cell (m / 8) (by omega)
      have hfree := hown.free (m / 8)
      have hge := hown.ge.1
      generalize l.getD (m / 8) 0 = c at *
      go_wp2_with (go_at_call 47; refine (has_any _ _ _ _ _).mono ?_; rintro e w' ⟨rfl, rfl⟩; rw [hh])
      go_ret
      exact ⟨⟨g, rfl, by rw [HS.out]; exact hown.store _ _⟩, hbel.setCell hge _⟩
  · have hh2 : hasB l.length k = false := by simpa using hh
    have HS : Hid (setL l k on = l) := by show _ = _; simp [setL, hh2]
    clear hh
    go_enter Try.func34, Try.ntmps34
    go_wp2_with fail
    refine (clone_any a cap l w hr hl).mono ?_
    rintro e w1 ⟨⟨g, rfl, hown⟩, hbel⟩
    go_wp2_with (go_at_call 47; refine (has_any _ _ _ _ _).mono ?_; rintro e w' ⟨rfl, rfl⟩; rw [hh2])
    go_ret
    exact ⟨⟨g, rfl, by rw [HS.out]; exact hown⟩, hbel⟩
/-- Behind Set: that bit alone has turned. -/
theorem tst_setL (l : List Nat) (k : Int) (on : Bool) (i : Nat) (h : ∀ j, l.getD j 0 < 256) (hi : i < 8 * l.length) : tst (setL l k on) i = if (i : Int) = k then on else tst l i := by
  by_cases hh : hasB l.length k = true
  · have hh' : 0 ≤ k ∧ k / 8 < l.length := by simpa [hasB] using hh
    obtain ⟨m, rfl⟩ := Int.eq_ofNat_of_zero_le hh'.1
    simp only [setL, hh, if_true, Int.toNat_natCast]
    unfold tst
    rw [getD_set l _ _ _ (by omega)]
    by_cases e8 : m / 8 = i / 8
    · rw [if_pos e8, ← e8]
      by_cases e : i = m
      · rw [if_pos (by omega), e]; exact sb_at ⟨_, h _⟩ ⟨m % 8, by omega⟩ on
      · rw [if_neg (by omega)]
        have := sb_other ⟨_, h (m / 8)⟩ ⟨m % 8, by omega⟩ ⟨i % 8, by omega⟩ on (by intro c; apply e; have := congrArg Fin.val c; simp only at this; omega)
        simp only at this
        rw [this]
    · rw [if_neg e8, if_neg (by intro c; apply e8; rw [show i = m by omega])]
  · have hh2 : hasB l.length k = false := by simpa using hh
    have : ¬ (0 ≤ k ∧ k / 8 < l.length) := by simpa [hasB] using hh
    rw [if_neg (by omega)]
    simp [setL, hh2]
end Go.Proofs.Ytffnhmccoacglaa
