/- What Get (of bits, and the document's own) returns over any bytes. -/
import Derived.Test.YtffnhmccoacglaaMem
namespace Go.Proofs.Ytffnhmccoacglaa
set_option linter.unusedSimpArgs false
set_option linter.unusedVariables false
open Go.RowKit

/-- Σ f j * 256^j, j < n. -/
def sm (f : Nat → Nat) : Nat → Nat
  | 0 => 0
  | n + 1 => sm f n + f n * 256 ^ n
theorem sm_lt (f : Nat → Nat) (hf : ∀ j, f j < 256) (n : Nat) : sm f n < 256 ^ n := by
  induction n with
  | zero => simp [sm]
  | succ n ih =>
    have h1 : f n * 256 ^ n ≤ 255 * 256 ^ n := Nat.mul_le_mul_right _ (by have := hf n; omega)
    simp only [sm, Nat.pow_succ]
    omega
theorem sm_front (f : Nat → Nat) (n : Nat) : sm f (n + 1) = f 0 + 256 * sm (fun j => f (j + 1)) n := by
  induction n with
  | zero => simp [sm]
  | succ n ih =>
    rw [sm, ih]
    simp only [sm, Nat.pow_succ, Nat.mul_add]
    have : f (n + 1) * (256 ^ n * 256) = 256 * (f (n + 1) * 256 ^ n) := by rw [← Nat.mul_assoc, Nat.mul_comm]
    omega
theorem sm_congr (f g : Nat → Nat) (n : Nat) (h : ∀ j, j < n → f j = g j) : sm f n = sm g n := by
  induction n with
  | zero => rfl
  | succ n ih => simp only [sm]; rw [ih (fun j hj => h j (by omega)), h n (by omega)]
def plc (size : Nat) (big : Bool) (i : Nat) : Nat := if big then size - 1 - i else i
/-- The number of the bytes from p on. -/
def getV (l : List Nat) (p size : Nat) (big : Bool) : Nat := sm (fun j => l.getD (p + plc size big j) 0) size
def getI (l : List Nat) (p size : Int) (big : Bool) : Int := if fitsB l.length p size then (getV l p.toNat size.toNat big : Nat) else 0
theorem Row.lt {w : World} {a : Option Addr} {l : List Nat} (h : Row w a l) (i : Nat) : l.getD i 0 < 256 := by
  by_cases hi : i < l.length
  · obtain ⟨_, _, _, _, h⟩ := h i hi; exact h
  · rw [getD_out _ _ (by omega)]; omega
theorem p256 (n : Nat) (h : n ≤ 8) : (256 : Nat) ^ n ≤ 18446744073709551616 := by
  have := Nat.pow_le_pow_right (n := 256) (by decide) h
  omega
theorem or_step (V c i : Nat) (hi : i < 8) (hV : V < 256 ^ i) (hc : c < 256) : bits .or .u64 (V : Int) (IntKind.u64.wrap ((c : Int) * 2 ^ (8 * i))) = ((V + c * 256 ^ i : Nat) : Int) := by
  have h1 : c * 256 ^ i ≤ 255 * 256 ^ i := Nat.mul_le_mul_right _ (by omega)
  have h2 := p256 (i + 1) (by omega)
  rw [Nat.pow_succ] at h2
  have e : ((c : Int) * 2 ^ (8 * i)) = ((c * 256 ^ i : Nat) : Int) := by
    have : (256 : Nat) ^ i = 2 ^ (8 * i) := by rw [Nat.pow_mul]
    rw [this]; simp
  rw [e, wu64 _ (by omega) (by omega), u64_or_nat _ _ (by omega) (by omega), Nat.or_comm, nat_join (8 * i) _ _ ?_ ?_, Nat.add_comm]
  · rw [Nat.pow_mul]; exact Nat.mul_mod_left _ _
  · rw [Nat.pow_mul]; exact hV
theorem get_no (a : Option Addr) (cap len : Nat) (p size : Int) (big : Bool) (w : World) (hl : len ≤ maxLen) (hf : fitsB len p size = false) :
    Calls Try.prog 16 #[.slice a len cap, .int .i64 p, .int .i64 size, .bool big] w fun e w' => e = .returned (.tuple #[.int .u64 0, .bool false]) ∧ w' = w := by
  go_enter Try.func16, Try.ntmps16
  go_wp2_with (go_at_call 43; refine (fits_any _ _ _ _ _ _ hl).mono ?_; rintro e w' ⟨rfl, rfl⟩; rw [hf])
  go_ret2
  exact ⟨rfl, rfl⟩
theorem get_yes (a : Option Addr) (cap : Nat) (l : List Nat) (p size : Nat) (big : Bool) (w : World) (hr : Row w a l) (hl : l.length ≤ maxLen) (h1 : 1 ≤ size) (h2 : size ≤ 8) (h3 : p + size ≤ l.length) :
    Calls Try.prog 16 #[.slice a l.length cap, .int .i64 p, .int .i64 size, .bool big] w fun e w' => e = .returned (.tuple #[.int .u64 (getV l p size big : Nat), .bool true]) ∧ w' = w := by
  have hf : fitsB l.length p size = true := by simp [fitsB]; omega
  have hl0 := hl
  unfold maxLen at hl
  obtain ⟨f, HF⟩ : ∃ f, Hid (f = (fun j => l.getD (p + plc size big j) 0)) := ⟨_, rfl⟩
  have HG : Hid (getV l p size big = sm f size) := by show _ = _; rw [HF.out]; rfl
  have hf256 : ∀ j, f j < 256 := by intro j; rw [HF.out]; exact hr.lt _
  go_enter Try.func16, Try.ntmps16
  go_wp2_with (go_at_call 43; refine (fits_any _ _ _ _ _ _ hl0).mono ?_; rintro e w' ⟨rfl, rfl⟩; rw [hf])
  go_loop [8, 17] (fun v i => ∃ k : Nat, k ≤ size ∧ i = .int .i64 k ∧ v = .int .u64 (sm f k : Nat)) (fun _ i => size - (intOf i).toNat)
  case atStart => exact ⟨0, by omega, rfl, rfl⟩
  case round =>
    obtain ⟨k, hk, rfl, rfl⟩ := hrel
    by_cases hlt : k < size
    · have hpl : plc size big k < size := by unfold plc; split <;> omega
      obtain ⟨b, off, rfl, hc, hlt2⟩ := hr (p + plc size big k) (by omega)
      have HS : Hid (bits .or .u64 (sm f k : Nat) (IntKind.u64.wrap ((l.getD (p + plc size big k) 0 : Nat) * 2 ^ (8 * k))) = ((sm f (k + 1) : Nat) : Int)) := by
        show _ = _
        rw [or_step _ _ k (by omega) (sm_lt f hf256 k) (hr.lt _)]
        simp only [sm]
        rw [HF.out]
      have hpi : placeI k size big = (plc size big k : Nat) := by
        unfold placeI plc; cases big
        · simp
        · simp; omega
      generalize l.getD (p + plc size big k) 0 = c at *
      generalize plc size big k = q at *
      clear hr hf256
      have hltq : ((p : Int) + q) < (l.length : Int) := by omega
      go_wp2_with (go_at_call 44; refine (place_any _ _ _ _ (by omega) (by omega) (by omega)).mono ?_; rintro e w' ⟨rfl, rfl⟩; rw [hpi])
      exact ⟨⟨k + 1, by omega, by go_num, by rw [HS.out]⟩, by simp [intOf]; omega⟩
    · go_wp2
      go_ret2
      have : k = size := by omega
      subst this
      exact ⟨by rw [HG.out]; rfl, rfl⟩
theorem getI_no (l : List Nat) (p size : Int) (big : Bool) (h : fitsB l.length p size = false) : getI l p size big = 0 := by simp [getI, h]
theorem get_any (a : Option Addr) (cap : Nat) (l : List Nat) (p size : Int) (big : Bool) (w : World) (hr : Row w a l) (hl : l.length ≤ maxLen) :
    Calls Try.prog 16 #[.slice a l.length cap, .int .i64 p, .int .i64 size, .bool big] w fun e w' => e = .returned (.tuple #[.int .u64 (getI l p size big), .bool (fitsB l.length p size)]) ∧ w' = w := by
  by_cases hf : fitsB l.length p size = true
  · have hf' : 1 ≤ size ∧ size ≤ 8 ∧ 0 ≤ p ∧ p ≤ l.length - size := by simpa [fitsB] using hf
    obtain ⟨n, rfl⟩ := Int.eq_ofNat_of_zero_le hf'.2.2.1
    obtain ⟨m, rfl⟩ := Int.eq_ofNat_of_zero_le (show 0 ≤ size by omega)
    refine (get_yes a cap l n m big w hr hl (by omega) (by omega) (by omega)).mono fun e w' h => ?_
    rw [h.1, h.2, hf]
    simp [getI, hf]
  · have hf2 : fitsB l.length p size = false := by simpa using hf
    refine (get_no a cap l.length p size big w hl hf2).mono fun e w' h => ?_
    rw [h.1, h.2, hf2, getI_no l p size big hf2]
    exact ⟨rfl, rfl⟩
end Go.Proofs.Ytffnhmccoacglaa
