/- Count (of bits) over any bytes, 2000 at most. -/
import Derived.Test.YtffnhmccoacglaaSet
namespace Go.Proofs.Ytffnhmccoacglaa
set_option linter.unusedSimpArgs false
set_option linter.unusedVariables false
open Go.RowKit
/-- How many bits below m are 1. -/
def cnt (l : List Nat) : Nat → Nat
  | 0 => 0
  | k + 1 => cnt l k + (if tst l k then 1 else 0)
def pcs (c : Nat) : Nat → Nat
  | 0 => 0
  | m + 1 => pcs c m + c / 2 ^ m % 2
theorem cnt_byte (l : List Nat) (i m : Nat) (hm : m ≤ 8) : cnt l (8 * i + m) = cnt l (8 * i) + pcs (l.getD i 0) m := by
  induction m with
  | zero => simp [pcs]
  | succ m ih =>
    rw [← Nat.add_assoc, cnt, ih (by omega), tst_at l i m (by omega), pcs]
    generalize l.getD i 0 = c
    rcases Nat.mod_two_eq_zero_or_one (c / 2 ^ m) with h | h <;> simp [h] <;> omega
theorem pcs_mod : ∀ (c : Fin 256) (m : Fin 9), pcs (c.val % 2 ^ m.val) 8 = pcs c.val m.val := by decide +kernel
theorem pcs_step : ∀ c : Fin 256, 0 < c.val → pcs c.val 8 = pcs (c.val &&& (c.val - 1)) 8 + 1 ∧ (c.val &&& (c.val - 1)) < c.val := by decide +kernel
theorem pcs_zero : pcs 0 8 = 0 := by decide
theorem pcs_le (c m : Nat) : pcs c m ≤ m := by
  induction m with
  | zero => simp [pcs]
  | succ m ih => rw [pcs]; omega
theorem cnt_le (l : List Nat) (m : Nat) : cnt l m ≤ m := by
  induction m with
  | zero => simp [cnt]
  | succ m ih => rw [cnt]; split <;> omega
theorem cnt_out (l : List Nat) (m : Nat) : cnt l (8 * l.length + m) = cnt l (8 * l.length) := by
  induction m with
  | zero => rfl
  | succ m ih =>
    rw [← Nat.add_assoc, cnt, ih]
    have : tst l (8 * l.length + m) = false := by unfold tst; rw [getD_out _ _ (by omega)]; simp
    simp [this]
def cntI (l : List Nat) (n : Int) : Int := (cnt l (min n.toNat (8 * l.length)) : Nat)
/-- Behind i bytes, where those are ahead of n. -/
structure CntAt (l : List Nat) (n : Int) (k o : Nat) : Prop where
  num : o = cnt l (min n.toNat (8 * k))
  low : k = 0 ∨ 8 * ((k : Int) - 1) < n
structure InAt (S o c : Nat) : Prop where
  sum : o + pcs c 8 = S
theorem InAt.step {S o c : Nat} (h : InAt S o c) (hc : c < 256) (h0 : 0 < c) : InAt S (o + 1) (c &&& (c - 1)) ∧ (c &&& (c - 1)) < c := by
  have := pcs_step ⟨c, hc⟩ h0
  simp only at this
  exact ⟨⟨by have := h.sum; omega⟩, this.2⟩
theorem InAt.done {S o c : Nat} (h : InAt S o c) (h0 : c = 0) : o = S := by
  have := h.sum; rw [h0, pcs_zero] at this; omega
theorem mask_u8 (c m : Nat) (hc : c < 256) (hm : m < 8) : bits .and .u8 (c : Int) (2 ^ m - 1) = ((c % 2 ^ m : Nat) : Int) := by
  have h := p2u8 m hm
  have hp : (0 : Int) < 2 ^ m := p2pos m
  have e : ((2 : Int) ^ m) = ((2 ^ m : Nat) : Int) := by simp
  rw [u8_and _ _ (by omega) (by omega) (by omega) (by omega)]
  have e2 : ((2 : Int) ^ m - 1).toNat = 2 ^ m - 1 := by omega
  rw [e2, Int.toNat_natCast, Nat.and_two_pow_sub_one_eq_mod]
theorem and_pred (c : Nat) (hc : c < 256) (h0 : 0 < c) : bits .and .u8 (c : Int) ((c : Int) - 1) = ((c &&& (c - 1) : Nat) : Int) := by
  rw [u8_and _ _ (by omega) (by omega) (by omega) (by omega)]
  rw [show ((c : Int) - 1).toNat = c - 1 by omega, Int.toNat_natCast]
set_option maxRecDepth 100000 in
set_option maxHeartbeats 800000 in
theorem count_any (a : Option Addr) (cap : Nat) (l : List Nat) (n : Int) (w : World) (hr : Row w a l) (hl : l.length ≤ 2000) (hn0 : -9223372036854775808 ≤ n) (hn1 : n ≤ 9223372036854775807) :
    Calls Try.prog 40 #[.slice a l.length cap, .int .i64 n] w fun e w' => e = .returned (.int .i64 (cntI l n)) ∧ w' = w := by
  go_enter Try.func40, Try.ntmps40
  go_wp2
  go_loop [4, 10] (fun s i => ∃ k o : Nat, k ≤ l.length ∧ o ≤ 8 * k ∧ i = .int .i64 k ∧ s = .int .i64 o ∧ CntAt l n k o) (fun _ i => l.length - (intOf i).toNat)
  case atStart => exact ⟨0, 0, by omega, by omega, rfl, rfl, by simp [cnt], .inl rfl⟩
  case round =>
    obtain ⟨k, o, hk, ho, rfl, rfl, hat⟩ := hrel
    by_cases hlt : k < l.length
    · obtain ⟨b, off, rfl, hc, hlt2⟩ := hr k hlt
      have hlow := hat.low
      have hltI : (k : Int) < (l.length : Int) := by omega
      have hb0 : -9223372036854775808 ≤ n - (k : Int) * 8 := by omega
      by_cases hleft : n - (k : Int) * 8 ≤ 0
      · -- all that is below n is counted
        have HR : Hid (cntI l n = (o : Int)) := by
          show _ = _
          unfold cntI
          rw [hat.num, show min n.toNat (8 * l.length) = min n.toNat (8 * k) by omega]
        clear hat hlow
        go_wp2
        go_ret
        exact ⟨by rw [HR.out]; rfl, rfl⟩
      · obtain ⟨m, hm⟩ := Int.eq_ofNat_of_zero_le (show 0 ≤ n - (k : Int) * 8 by omega)
        have hm0 : 0 < m := by omega
        have HO : Hid (o = cnt l (8 * k)) := by show _ = _; rw [hat.num, show min n.toNat (8 * k) = 8 * k by omega]
        have HNx : Hid (∀ o', o' = cnt l (8 * k) + pcs (l.getD k 0) (min m 8) → CntAt l n (k + 1) o') := by
          intro o' e
          refine ⟨?_, .inr (by omega)⟩
          rw [e, ← cnt_byte l k _ (by omega)]
          congr 1
          omega
        have HNm : Hid (n - (k : Int) * 8 = (m : Int)) := hm
        clear hat hlow
        have hmI : (0 : Int) < (m : Int) := by omega
        have hT : pcs (l.getD k 0) (min m 8) ≤ 8 := Nat.le_trans (pcs_le _ _) (by omega)
        by_cases h8 : m < 8
        · have hms := mask_u8 (l.getD k 0) m hlt2 h8
          have hpm : Hid (pcs (l.getD k 0 % 2 ^ m) 8 = pcs (l.getD k 0) (min m 8)) := by
            show _ = _
            have := pcs_mod ⟨l.getD k 0, hlt2⟩ ⟨m, by omega⟩
            simp only at this
            rw [this, show min m 8 = m by omega]
          have hc2 : l.getD k 0 % 2 ^ m < 256 := Nat.lt_of_le_of_lt (Nat.mod_le _ _) hlt2
          generalize pcs (l.getD k 0) (min m 8) = T at *
          generalize l.getD k 0 % 2 ^ m = c2 at *
          generalize l.getD k 0 = c at *
          have hp := p2u8 m h8
          have hpI : (2 : Int) ^ m ≤ 128 := by have e : ((2 : Int) ^ m) = ((2 ^ m : Nat) : Int) := by simp
                                               omega
          have hp0 := p2pos m
          have h8I : (m : Int) < 8 := by omega
          clear hleft hp
          go_wp2
          go_loop [4, 6] (fun s c => ∃ o' c' : Nat, c' < 256 ∧ o' ≤ 8 * k + 8 ∧ s = .int .i64 o' ∧ c = .int .u8 c' ∧ InAt (o + T) o' c') (fun _ c => (intOf c).toNat)
          case atStart => exact ⟨o, c2, hc2, by omega, rfl, rfl, ⟨by rw [hpm.out]⟩⟩
          case round =>
            obtain ⟨o', c', hc', ho', rfl, rfl, hin⟩ := hrel
            by_cases h0 : c' = 0
            · have HD : Hid (CntAt l n (k + 1) o') := HNx.out o' (by rw [hin.done h0, HO.out])
              have h0' : ((c' : Int) != 0) = false := by simp [h0]
              clear hin h0
              go_wp2
              exact ⟨⟨k + 1, o', by omega, by omega, by go_num, rfl, HD.out⟩, by simp [intOf]; omega⟩
            · obtain ⟨hst, hlt'⟩ := hin.step hc' (by omega)
              have hsum := hst.sum
              have ho2 : o' + 1 ≤ 8 * k + 8 := by omega
              have HI : Hid (InAt (o + T) (o' + 1) (c' &&& (c' - 1))) := hst
              have hand := and_pred c' hc' (by omega)
              have h0' : ((c' : Int) != 0) = true := by rw [bne_iff_ne]; omega
              have h1' : 1 ≤ (c' : Int) := by omega
              clear hst hin hsum
              generalize c' &&& (c' - 1) = d at *
              go_wp2
              exact ⟨⟨o' + 1, d, by omega, by omega, by go_num, rfl, HI.out⟩, by simp [intOf]; omega⟩
        · have hpm : Hid (pcs (l.getD k 0) 8 = pcs (l.getD k 0) (min m 8)) := by show _ = _; rw [show min m 8 = 8 by omega]
          generalize pcs (l.getD k 0) (min m 8) = T at *
          generalize l.getD k 0 = c at *
          have h8I : ¬ (m : Int) < 8 := by omega
          clear hleft h8
          go_wp2
          go_loop [4, 6] (fun s c => ∃ o' c' : Nat, c' < 256 ∧ o' ≤ 8 * k + 8 ∧ s = .int .i64 o' ∧ c = .int .u8 c' ∧ InAt (o + T) o' c') (fun _ c => (intOf c).toNat)
          case atStart => exact ⟨o, c, hlt2, by omega, rfl, rfl, ⟨by rw [hpm.out]⟩⟩
          case round =>
            obtain ⟨o', c', hc', ho', rfl, rfl, hin⟩ := hrel
            by_cases h0 : c' = 0
            · have HD : Hid (CntAt l n (k + 1) o') := HNx.out o' (by rw [hin.done h0, HO.out])
              have h0' : ((c' : Int) != 0) = false := by simp [h0]
              clear hin h0
              go_wp2
              exact ⟨⟨k + 1, o', by omega, by omega, by go_num, rfl, HD.out⟩, by simp [intOf]; omega⟩
            · obtain ⟨hst, hlt'⟩ := hin.step hc' (by omega)
              have hsum := hst.sum
              have ho2 : o' + 1 ≤ 8 * k + 8 := by omega
              have HI : Hid (InAt (o + T) (o' + 1) (c' &&& (c' - 1))) := hst
              have hand := and_pred c' hc' (by omega)
              have h0' : ((c' : Int) != 0) = true := by rw [bne_iff_ne]; omega
              have h1' : 1 ≤ (c' : Int) := by omega
              clear hst hin hsum
              generalize c' &&& (c' - 1) = d at *
              go_wp2
              exact ⟨⟨o' + 1, d, by omega, by omega, by go_num, rfl, HI.out⟩, by simp [intOf]; omega⟩
    · have HR : Hid (cntI l n = (o : Int)) := by
        show _ = _
        unfold cntI
        rw [hat.num, show 8 * l.length = 8 * k by omega]
      clear hat
      go_wp2
      go_ret
      exact ⟨by rw [HR.out]; rfl, rfl⟩
end Go.Proofs.Ytffnhmccoacglaa
