/- Maps of bits: has, Test, First, Set, as stage 1 has them. -/
import Derived.Test.YtpjeidihcjljnaaGreatDoorBt
import Derived.Test.YtpjeidihcjljnaaGreatDoorAlk
namespace Go.Proofs.YtpjeidihcjljnaaGreatDoor
set_option linter.unusedSimpArgs false
set_option linter.unusedVariables false
open Go.RowKit
theorem p2pos (n : Nat) : (0 : Int) < 2 ^ n := Int.pow_pos (by decide)
def bitB (len : Nat) (k : Int) : Bool := decide (0 ≤ k ∧ k / 8 < len)
theorem bithas_any (a : Option Addr) (len cap : Nat) (k : Int) (w : World) :
    Calls Tryz.prog 78 #[.slice a len cap, .int .i64 k] w fun e w' => e = .returned (.bool (bitB len k)) ∧ w' = w := by
  by_cases h1 : 0 ≤ k
  · by_cases h2 : k / 8 < len
    all_goals
      go_enter Tryz.func78, Tryz.ntmps78
      go_wp2
      go_ret
      simp [bitB, h1, h2]
  · go_enter Tryz.func78, Tryz.ntmps78
    go_wp2
    go_ret
    simp [bitB]
    omega

/-- Bit k. -/
def tst (l : List Nat) (k : Nat) : Bool := l.getD (k / 8) 0 / 2 ^ (k % 8) % 2 == 1
def tstI (l : List Nat) (k : Int) : Bool := if k < 0 then false else tst l k.toNat
theorem and7 (k : Nat) (h : k ≤ 9223372036854775807) : bits .and .i64 (k : Int) 7 = ((k % 8 : Nat) : Int) := by
  have e2 : (BitVec.ofInt 64 (k : Int)).toNat = k := ofInt_u64 k (by omega)
  show IntKind.i64.wrap ((BitVec.ofInt 64 (k : Int) &&& BitVec.ofInt 64 7).toNat : Nat) = _
  rw [BitVec.toNat_and, e2, show (BitVec.ofInt 64 7).toNat = 2 ^ 3 - 1 by decide, Nat.and_two_pow_sub_one_eq_mod, IntKind.wrap_i64]
  omega
theorem u8_and1 (x : Nat) (h : x < 256) : bits .and .u8 (x : Int) 1 = ((x % 2 : Nat) : Int) := by
  rw [u8_and _ _ (by omega) (by omega) (by omega) (by omega), show ((1 : Int).toNat) = 2 ^ 1 - 1 by decide, Nat.and_two_pow_sub_one_eq_mod]
  simp
theorem div_lt256 (c n : Nat) (h : c < 256) : c / n < 256 := Nat.lt_of_le_of_lt (Nat.div_le_self _ _) h
theorem test_any (a : Option Addr) (cap : Nat) (l : List Nat) (k : Int) (w : World) (hr : Row w a l) (hl : l.length ≤ maxLen) (h1 : k ≤ 9223372036854775807) :
    Calls Tryz.prog 71 #[.slice a l.length cap, .int .i64 k] w fun e w' => e = .returned (.bool (tstI l k)) ∧ w' = w := by
  unfold maxLen at hl
  by_cases hh : bitB l.length k = true
  · have hh' : 0 ≤ k ∧ k / 8 < l.length := by simpa [bitB] using hh
    obtain ⟨m, rfl⟩ := Int.eq_ofNat_of_zero_le hh'.1
    obtain ⟨b, off, rfl, hc, hlt⟩ := hr (m / 8) (by omega)
    have HT : Hid (tstI l m = (l.getD (m / 8) 0 / 2 ^ (m % 8) % 2 == 1)) := by show _ = _; simp [tstI, tst]
    clear hr
    generalize l.getD (m / 8) 0 = c at *
    have h7 := and7 m (by omega)
    have hm8 : m % 8 < 8 := by omega
    obtain ⟨j, hj⟩ : ∃ j, j = m % 8 := ⟨_, rfl⟩
    rw [← hj] at h7 hm8
    have HJ : Hid (j = m % 8) := hj
    have h1' := u8_and1 (c / 2 ^ j) (div_lt256 _ _ hlt)
    have hq : ((c / 2 ^ j : Nat) : Int) = (c : Int) / 2 ^ j := by simp
    rw [hq] at h1'
    clear hj hq
    have hlt8 : (m : Int) / 8 < (l.length : Int) := hh'.2
    go_enter Tryz.func71, Tryz.ntmps71
    go_wp2_with (go_at_call 78; refine (bithas_any _ _ _ _ _).mono ?_; rintro e w' ⟨rfl, rfl⟩; rw [hh])
    go_ret
    refine ⟨retB ?_, rfl⟩
    rw [HT.out, ← HJ.out, show (c : Int) / 2 ^ j % 2 = ((c / 2 ^ j % 2 : Nat) : Int) by simp, Bool.eq_iff_iff]
    simp only [beq_iff_eq]
    omega
  · have hh2 : bitB l.length k = false := by simpa using hh
    have HT : Hid (tstI l k = false) := by
      show _ = _
      simp only [tstI, tst, bitB] at *
      split
      · rfl
      · rw [getD_out _ _ (by simp at hh; omega)]; simp
    clear hh
    go_enter Tryz.func71, Tryz.ntmps71
    go_wp2_with (go_at_call 78; refine (bithas_any _ _ _ _ _).mono ?_; rintro e w' ⟨rfl, rfl⟩; rw [hh2])
    go_ret
    exact ⟨by rw [HT.out]; rfl, rfl⟩

/-- r is the first bit below n that is there and 0, or -1. -/
def FirstIs (l : List Nat) (n r : Int) : Prop :=
  (∃ k : Nat, r = k ∧ (k : Int) < n ∧ k / 8 < l.length ∧ tst l k = false ∧ ∀ j, j < k → tst l j = true) ∨
  (r = -1 ∧ ∀ k : Nat, (k : Int) < n → k / 8 < l.length → tst l k = true)
theorem FirstIs.one {l : List Nat} {n r s : Int} (h : FirstIs l n r) (h2 : FirstIs l n s) : r = s := by
  rcases h with ⟨k, rfl, a1, a2, a3, a4⟩ | ⟨rfl, a⟩ <;> rcases h2 with ⟨m, rfl, b1, b2, b3, b4⟩ | ⟨rfl, b⟩
  · have h1 : ¬ k < m := fun h => by have := b4 k h; simp [a3] at this
    have h2 : ¬ m < k := fun h => by have := a4 m h; simp [b3] at this
    omega
  · have := b k a1 a2; simp [a3] at this
  · have := a m b1 b2; simp [b3] at this
  · rfl
theorem all255 : ∀ j : Fin 8, 255 / 2 ^ j.val % 2 = 1 := by decide
theorem only255 : ∀ c : Fin 256, (∀ j : Fin 8, c.val / 2 ^ j.val % 2 = 1) → c.val = 255 := by decide +kernel
theorem tst_at (l : List Nat) (k j : Nat) (hj : j < 8) : tst l (8 * k + j) = (l.getD k 0 / 2 ^ j % 2 == 1) := by
  unfold tst; rw [show (8 * k + j) / 8 = k by omega, show (8 * k + j) % 8 = j by omega]
theorem full_byte (l : List Nat) (k : Nat) (h : l.getD k 0 = 255) (h0 : ∀ j, j < 8 * k → tst l j = true) : ∀ j, j < 8 * (k + 1) → tst l j = true := by
  intro j hj
  by_cases h8 : j < 8 * k
  · exact h0 j h8
  · obtain ⟨i, rfl⟩ : ∃ i, j = 8 * k + i := ⟨j - 8 * k, by omega⟩
    rw [tst_at l k i (by omega), h]
    simpa using all255 ⟨i, by omega⟩
theorem not_full (l : List Nat) (k t : Nat) (hc : l.getD k 0 < 256) (h : l.getD k 0 ≠ 255) (h0 : ∀ j, j < t → tst l j = true) (ht : t < 8 * k + 8) (h1 : tst l t = true) : t + 1 < 8 * k + 8 := by
  apply Nat.lt_of_not_le
  intro hle
  apply h
  refine only255 ⟨_, hc⟩ ?_
  intro j
  have := j.isLt
  have h2 : tst l (8 * k + j.val) = true := by
    by_cases h3 : 8 * k + j.val < t
    · exact h0 _ h3
    · rw [show 8 * k + j.val = t by omega]; exact h1
  rw [tst_at l k j.val this] at h2
  simpa using h2
structure FullTo (l : List Nat) (t : Nat) : Prop where
  all : ∀ j, j < t → tst l j = true
theorem tstI_nat (l : List Nat) (t : Nat) : tstI l t = tst l t := by simp [tstI]
set_option maxRecDepth 100000 in
theorem first_any (a : Option Addr) (cap : Nat) (l : List Nat) (n : Int) (w : World) (hr : Row w a l) (hl : l.length ≤ 2000) :
    Calls Tryz.prog 40 #[.slice a l.length cap, .int .i64 n] w fun e w' => (∃ r, e = .returned (.int .i64 r) ∧ FirstIs l n r) ∧ w' = w := by
  have hl2 : l.length ≤ maxLen := by unfold maxLen; omega
  go_enter Tryz.func40, Tryz.ntmps40
  go_wp2
  go_loop [10] (fun i => ∃ k : Nat, k ≤ l.length ∧ i = .int .i64 k ∧ FullTo l (8 * k)) (fun i => l.length - (intOf i).toNat)
  case atStart => exact ⟨0, by omega, rfl, ⟨by intro j hj; omega⟩⟩
  case round =>
    obtain ⟨k, hk, rfl, hfull⟩ := hrel
    by_cases hlt : k < l.length
    · have hr' := hr
      obtain ⟨b, off, rfl, hc, hlt2⟩ := hr k hlt
      have hltI : (k : Int) < (l.length : Int) := by omega
      by_cases h255 : l.getD k 0 = 255
      · have HF : Hid (FullTo l (8 * (k + 1))) := ⟨full_byte l k h255 hfull.all⟩
        rw [h255] at hc
        clear h255 hr' hr hfull
        go_wp2
        go_round
        case rel => exact ⟨k + 1, by omega, by go_num, HF.out⟩
        case measure => simp [intOf]; omega
      · have HN : Hid (∀ t, FullTo l t → t < 8 * k + 8 → tst l t = true → t + 1 < 8 * k + 8) := fun t hf ht h1 => not_full l k t hlt2 h255 hf.all ht h1
        generalize hce : l.getD k 0 = c at *
        have h255' : ((c : Int) == 255) = false := by rw [beq_eq_false_iff_ne]; omega
        clear hce h255
        go_wp2
        go_loop [7] (fun i => ∃ t : Nat, 8 * k ≤ t ∧ t < 8 * k + 8 ∧ i = .int .i64 t ∧ FullTo l t) (fun i => 8 * k + 8 - (intOf i).toNat)
        case atStart => exact ⟨8 * k, by omega, by omega, by go_num, hfull⟩
        case round =>
          obtain ⟨t, ht0, ht1, rfl, hft⟩ := hrel
          by_cases hb : tst l t = true
          · have h2 := HN.out t hft ht1 hb
            have HF : Hid (FullTo l (t + 1)) := ⟨by
              intro j hj
              by_cases h : j = t
              · subst h; exact hb
              · exact hft.all j (by omega)⟩
            have hbI : tstI l t = true := by rw [tstI_nat]; exact hb
            clear hb hft
            go_wp2_with (go_at_call 71; refine (test_any _ _ _ _ _ hr' hl2 (by omega)).mono ?_; rintro e w' ⟨rfl, rfl⟩; rw [hbI])
            go_round
            case rel => exact ⟨t + 1, by omega, by omega, by go_num, HF.out⟩
            case measure => simp [intOf]; omega
          · have hb2 : tst l t = false := by simpa using hb
            have hbI : tstI l t = false := by rw [tstI_nat]; exact hb2
            have HF : Hid (if (t : Int) < n then FirstIs l n t else FirstIs l n (-1)) := by
              show ite _ _ _
              split
              · exact .inl ⟨t, rfl, by assumption, by omega, hb2, hft.all⟩
              · exact .inr ⟨rfl, fun j hj _ => hft.all j (by omega)⟩
            clear hb hb2 hft
            by_cases htn : (t : Int) < n
            · have HG : Hid (FirstIs l n t) := by have := HF.out; rw [if_pos htn] at this; exact this
              clear HF
              go_wp2_with (go_at_call 71; refine (test_any _ _ _ _ _ hr' hl2 (by omega)).mono ?_; rintro e w' ⟨rfl, rfl⟩; rw [hbI])
              go_ret
              exact ⟨⟨_, rfl, HG.out⟩, rfl⟩
            · have HG : Hid (FirstIs l n (-1)) := by have := HF.out; rw [if_neg htn] at this; exact this
              clear HF
              go_wp2_with (go_at_call 71; refine (test_any _ _ _ _ _ hr' hl2 (by omega)).mono ?_; rintro e w' ⟨rfl, rfl⟩; rw [hbI])
              go_ret
              exact ⟨⟨_, rfl, HG.out⟩, rfl⟩
    · have HG : Hid (FirstIs l n (-1)) := .inr ⟨rfl, fun j _ hj => hfull.all j (by omega)⟩
      go_wp2
      go_ret
      exact ⟨⟨_, rfl, HG.out⟩, rfl⟩

/-- A byte with bit j so. -/
def sb (c j : Nat) (on : Bool) : Nat := if on then c ||| 2 ^ j else c &&& (255 - 2 ^ j)
theorem sb_lt : ∀ (c : Fin 256) (j : Fin 8) (on : Bool), sb c.val j.val on < 256 := by decide +kernel
theorem sb_at : ∀ (c : Fin 256) (j : Fin 8) (on : Bool), (sb c.val j.val on / 2 ^ j.val % 2 == 1) = on := by decide +kernel
theorem sb_other : ∀ (c : Fin 256) (j i : Fin 8) (on : Bool), i ≠ j → sb c.val j.val on / 2 ^ i.val % 2 = c.val / 2 ^ i.val % 2 := by decide +kernel
def setL (l : List Nat) (k : Int) (on : Bool) : List Nat := if bitB l.length k then l.set (k.toNat / 8) (sb (l.getD (k.toNat / 8) 0) (k.toNat % 8) on) else l
theorem setL_length (l : List Nat) (k : Int) (on : Bool) : (setL l k on).length = l.length := by unfold setL; split <;> simp

theorem set_lt (l : List Nat) (i c : Nat) (h : ∀ j, l.getD j 0 < 256) (hc : c < 256) : ∀ j, (l.set i c).getD j 0 < 256 := by
  intro j
  by_cases hj : j < l.length
  · rw [getD_set l i j c hj]; split
    · exact hc
    · exact h j
  · rw [getD_out _ _ (by simp; omega)]; omega
theorem setL_lt (l : List Nat) (k : Int) (on : Bool) (h : ∀ j, l.getD j 0 < 256) : ∀ j, (setL l k on).getD j 0 < 256 := by
  unfold setL
  split
  · exact set_lt l _ _ h (sb_lt ⟨_, h _⟩ ⟨k.toNat % 8, by omega⟩ on)
  · exact h
theorem p2u8 (j : Nat) (h : j < 8) : (2 : Nat) ^ j ≤ 128 := by
  have := Nat.pow_le_pow_right (n := 2) (by decide) (show j ≤ 7 by omega)
  omega
theorem or_bit (c j : Nat) (hc : c < 256) (hj : j < 8) : bits .or .u8 (c : Int) (2 ^ j) = ((sb c j true : Nat) : Int) := by
  have := p2u8 j hj
  have e : ((2 : Int) ^ j) = ((2 ^ j : Nat) : Int) := by simp
  rw [e, u8_or_nat _ _ hc (by omega)]
  simp [sb]
theorem not_bit (c j : Nat) (hc : c < 256) (hj : j < 8) : bits .andNot .u8 (c : Int) (2 ^ j) = ((sb c j false : Nat) : Int) := by
  have := p2u8 j hj
  have e : ((2 : Int) ^ j) = ((2 ^ j : Nat) : Int) := by simp
  rw [e, u8_andNot_nat _ _ hc (by omega)]
  simp [sb]
set_option maxRecDepth 100000 in
theorem set_any (a : Option Addr) (cap : Nat) (l : List Nat) (k : Int) (on : Bool) (w : World) (hr : Row w a l) (hl : l.length ≤ 2000) (hk : k ≤ 9223372036854775807) :
    Calls Tryz.prog 61 #[.slice a l.length cap, .int .i64 k, .bool on] w fun e w' => (∃ g, e = .returned (.slice (some ⟨g, 0, none⟩) l.length l.length) ∧ Own w.heap.size w' g l.length (setL l k on)) ∧ Below w.heap.size w w' := by
  by_cases hh : bitB l.length k = true
  · have hh' : 0 ≤ k ∧ k / 8 < l.length := by simpa [bitB] using hh
    obtain ⟨m, rfl⟩ := Int.eq_ofNat_of_zero_le hh'.1
    obtain ⟨j, hj⟩ : ∃ j, j = m % 8 := ⟨_, rfl⟩
    have h7 := and7 m (by omega)
    rw [← hj] at h7
    have hj8 : j < 8 := by omega
    have hlt8 : (m : Int) / 8 < (l.length : Int) := hh'.2
    have hc256 := hr.lt (m / 8)
    have HS : Hid (setL l m on = l.set (m / 8) (sb (l.getD (m / 8) 0) j on)) := by show _ = _; simp only [setL, hh, if_true, Int.toNat_natCast, hj]
    have hp := p2u8 j hj8
    have hpI : (2 : Int) ^ j ≤ 128 := by have e : ((2 : Int) ^ j) = ((2 ^ j : Nat) : Int) := by simp
                                         omega
    have hp0 := p2pos j
    clear hj hh'
    cases on
    · have hb := not_bit (l.getD (m / 8) 0) j hc256 hj8
      go_enter Tryz.func61, Tryz.ntmps61
      go_wp2_with fail
      refine (clone_any a cap l w hr hl).mono ?_
      rintro e w1 ⟨⟨g, rfl, hown⟩, hbel⟩
      have hcell := hown.cell (m / 8) (by omega)
      have hfree := hown.free (m / 8)
      have hge := hown.ge.1
      generalize l.getD (m / 8) 0 = c at *
      go_wp2_with (go_at_call 78; refine (bithas_any _ _ _ _ _).mono ?_; rintro e w' ⟨rfl, rfl⟩; rw [hh])
      go_ret
      exact ⟨⟨g, rfl, by rw [HS.out]; exact hown.store _ _⟩, hbel.setCell hge _⟩
    · have hb := or_bit (l.getD (m / 8) 0) j hc256 hj8
      go_enter Tryz.func61, Tryz.ntmps61
      go_wp2_with fail
      refine (clone_any a cap l w hr hl).mono ?_
      rintro e w1 ⟨⟨g, rfl, hown⟩, hbel⟩
      have hcell := hown.cell (m / 8) (by omega)
      have hfree := hown.free (m / 8)
      have hge := hown.ge.1
      generalize l.getD (m / 8) 0 = c at *
      go_wp2_with (go_at_call 78; refine (bithas_any _ _ _ _ _).mono ?_; rintro e w' ⟨rfl, rfl⟩; rw [hh])
      go_ret
      exact ⟨⟨g, rfl, by rw [HS.out]; exact hown.store _ _⟩, hbel.setCell hge _⟩
  · have hh2 : bitB l.length k = false := by simpa using hh
    have HS : Hid (setL l k on = l) := by show _ = _; simp [setL, hh2]
    clear hh
    go_enter Tryz.func61, Tryz.ntmps61
    go_wp2_with fail
    refine (clone_any a cap l w hr hl).mono ?_
    rintro e w1 ⟨⟨g, rfl, hown⟩, hbel⟩
    go_wp2_with (go_at_call 78; refine (bithas_any _ _ _ _ _).mono ?_; rintro e w' ⟨rfl, rfl⟩; rw [hh2])
    go_ret
    exact ⟨⟨g, rfl, by rw [HS.out]; exact hown⟩, hbel⟩
/-- Behind Set: that bit alone has turned. -/
theorem tst_setL (l : List Nat) (k : Int) (on : Bool) (i : Nat) (h : ∀ j, l.getD j 0 < 256) (hi : i < 8 * l.length) : tst (setL l k on) i = if (i : Int) = k then on else tst l i := by
  by_cases hh : bitB l.length k = true
  · have hh' : 0 ≤ k ∧ k / 8 < l.length := by simpa [bitB] using hh
    obtain ⟨m, rfl⟩ := Int.eq_ofNat_of_zero_le hh'.1
    simp only [setL, hh, if_true, Int.toNat_natCast]
    unfold tst
    rw [getD_set l _ _ _ (by omega)]
    by_cases e8 : m / 8 = i / 8
    · rw [if_pos e8, ← e8]
      by_cases e : i = m
      · rw [if_pos (by omega), e]; exact sb_at ⟨_, h _⟩ ⟨m % 8, by omega⟩ on
      · rw [if_neg (by omega)]
        have := sb_other ⟨_, h (m / 8)⟩ ⟨m % 8, by omega⟩ ⟨i % 8, by omega⟩ on (by intro c; apply e; have := congrArg Fin.val c; simp only at this; omega)
        simp only at this
        rw [this]
    · rw [if_neg e8, if_neg (by intro c; apply e8; rw [show i = m by omega])]
  · have hh2 : bitB l.length k = false := by simpa using hh
    have : ¬ (0 ≤ k ∧ k / 8 < l.length) := by simpa [bitB] using hh
    rw [if_neg (by omega)]
    simp [setL, hh2]

end Go.Proofs.YtpjeidihcjljnaaGreatDoor
