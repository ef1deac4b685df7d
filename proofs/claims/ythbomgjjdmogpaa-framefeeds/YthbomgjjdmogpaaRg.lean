/- The document's own Get, as stage 1 has it. -/
import Derived.Test.YthbomgjjdmogpaaBt
namespace Go.Proofs.Ythbomgjjdmogpaa
set_option linter.unusedSimpArgs false
set_option linter.unusedVariables false
open Go.RowKit
theorem sm_front (f : Nat → Nat) (n : Nat) : sm f (n + 1) = f 0 + 256 * sm (fun j => f (j + 1)) n := by
  induction n with
  | zero => simp [sm]
  | succ n ih =>
    rw [sm, ih]
    simp only [sm, Nat.pow_succ, Nat.mul_add]
    have : f (n + 1) * (256 ^ n * 256) = 256 * (f (n + 1) * 256 ^ n) := by rw [← Nat.mul_assoc, Nat.mul_comm]
    omega
def hv (l : List Nat) (p : Nat) : Nat → Nat
  | 0 => 0
  | i + 1 => hv l p i * 256 + l.getD (p + i) 0
theorem hv_sm (l : List Nat) (p i : Nat) : hv l p i = sm (fun j => l.getD (p + (i - 1 - j)) 0) i := by
  induction i with
  | zero => rfl
  | succ i ih =>
    rw [hv, ih, sm_front]
    have e : sm (fun j => l.getD (p + (i + 1 - 1 - (j + 1))) 0) i = sm (fun j => l.getD (p + (i - 1 - j)) 0) i := sm_congr _ _ _ (fun j hj => by rw [show i + 1 - 1 - (j + 1) = i - 1 - j by omega])
    rw [e]
    simp
    omega
theorem hv_lt (l : List Nat) (p i : Nat) (h : ∀ j, l.getD j 0 < 256) : hv l p i < 256 ^ i := by rw [hv_sm]; exact sm_lt _ (fun j => h _) i
theorem getV_big (l : List Nat) (p size : Nat) : getV l p size true = hv l p size := by
  rw [hv_sm]; exact sm_congr _ _ _ (fun j _ => by simp [plc])
theorem horner (V c i : Nat) (hi : i < 8) (hV : V < 256 ^ i) (hc : c < 256) : bits .or .u64 (IntKind.u64.wrap ((V : Int) * 256)) (c : Int) = ((V * 256 + c : Nat) : Int) := by
  have h2 := p256 (i + 1) (by omega)
  rw [Nat.pow_succ] at h2
  have e : (V : Int) * 256 = ((V * 256 : Nat) : Int) := by simp
  rw [e, wu64 _ (by omega) (by omega), u64_or_nat _ _ (by omega) (by omega), nat_join 8 _ _ (by omega) (by omega)]
theorem rget_no (a : Option Addr) (cap len : Nat) (p size : Int) (big : Bool) (w : World) (hl : len ≤ maxLen) (hp : -9223372036854775808 ≤ p) (hp1 : p ≤ 9223372036854775807) (hf : fitsB len p size = false) :
    Calls Try.prog 22 #[.slice a len cap, .int .i64 p, .int .i64 size, .bool big] w fun e w' => e = .returned (.tuple #[.int .u64 0, .bool false]) ∧ w' = w := by
  unfold maxLen at hl
  have hf' : ¬ (1 ≤ size ∧ size ≤ 8 ∧ 0 ≤ p ∧ p ≤ len - size) := by simpa [fitsB] using hf
  clear hf
  by_cases h1 : size < 1
  · go_enter Try.func22, Try.ntmps22
    go_wp2
    go_ret2
    exact ⟨rfl, rfl⟩
  by_cases h2 : 8 < size
  · go_enter Try.func22, Try.ntmps22
    go_wp2
    go_ret2
    exact ⟨rfl, rfl⟩
  by_cases h3 : p < 0
  · go_enter Try.func22, Try.ntmps22
    go_wp2
    go_ret2
    exact ⟨rfl, rfl⟩
  by_cases h4 : (len : Int) < p
  · go_enter Try.func22, Try.ntmps22
    go_wp2
    go_ret2
    exact ⟨rfl, rfl⟩
  have h5 : (len : Int) - p < size := by omega
  clear hf'
  go_enter Try.func22, Try.ntmps22
  go_wp2
  go_ret2
  exact ⟨rfl, rfl⟩
set_option maxRecDepth 100000 in
theorem rget_yes (a : Option Addr) (cap : Nat) (l : List Nat) (p size : Nat) (big : Bool) (w : World) (hr : Row w a l) (hl : l.length ≤ 1000000) (h1 : 1 ≤ size) (h2 : size ≤ 8) (h3 : p + size ≤ l.length) :
    Calls Try.prog 22 #[.slice a l.length cap, .int .i64 p, .int .i64 size, .bool big] w fun e w' => e = .returned (.tuple #[.int .u64 (getV l p size big : Nat), .bool true]) ∧ w' = w := by
  have g1 : ¬ (size : Int) < 1 := by omega
  have g2 : ¬ (8 : Int) < (size : Int) := by omega
  have g4 : ¬ (l.length : Int) < (p : Int) := by omega
  have g5 : ¬ ((l.length : Int) - (p : Int) < (size : Int)) := by omega
  obtain ⟨f, HF⟩ : ∃ f : Nat → Nat, Hid (∀ i, i < size → f (i + 1) = if big then f i * 256 + l.getD (p + i) 0 else f i + l.getD (p + i) 0 * 256 ^ i) ∧ Hid (f 0 = 0 ∧ (∀ i, f i < 256 ^ i) ∧ f size = getV l p size big) := by
    cases big
    · refine ⟨sm (fun j => l.getD (p + plc size false j) 0), fun i _ => ?_, rfl, sm_lt _ (fun j => hr.lt _), rfl⟩
      simp [sm, plc]
    · refine ⟨hv l p, fun i _ => ?_, rfl, fun i => hv_lt l p i hr.lt, (getV_big l p size).symm⟩
      simp [hv]
  obtain ⟨HS, H0⟩ := HF
  go_enter Try.func22, Try.ntmps22
  go_wp2
  go_loop [10, 11] (fun v i => ∃ k : Nat, k ≤ size ∧ i = .int .i64 k ∧ v = .int .u64 (f k : Nat)) (fun _ i => size - (intOf i).toNat)
  case atStart => exact ⟨0, by omega, rfl, by rw [H0.out.1]; rfl⟩
  case round =>
    obtain ⟨k, hk, rfl, rfl⟩ := hrel
    by_cases hlt : k < size
    · obtain ⟨b, off, rfl, hc, hlt2⟩ := hr (p + k) (by omega)
      have hst := HS.out k hlt
      have hfk := H0.out.2.1 k
      generalize l.getD (p + k) 0 = c at *
      have hltq : ((p : Int) + k) < (l.length : Int) := by omega
      cases big
      · have HV : Hid (bits .or .u64 (f k : Nat) (IntKind.u64.wrap ((c : Nat) * 2 ^ (8 * k))) = ((f (k + 1) : Nat) : Int)) := by
          show _ = _
          rw [or_step _ _ k (by omega) hfk hlt2, hst]; simp
        clear hst hfk hr
        go_wp2
        exact ⟨⟨k + 1, by omega, by go_num, by rw [HV.out]⟩, by simp [intOf]; omega⟩
      · have HV : Hid (bits .or .u64 (IntKind.u64.wrap ((f k : Nat) * 256)) (c : Nat) = ((f (k + 1) : Nat) : Int)) := by
          show _ = _
          rw [horner _ _ k (by omega) hfk hlt2, hst]; simp
        clear hst hfk hr
        go_wp2
        exact ⟨⟨k + 1, by omega, by go_num, by rw [HV.out]⟩, by simp [intOf]; omega⟩
    · go_wp2
      go_ret2
      obtain rfl : k = size := by omega
      exact ⟨by rw [← H0.out.2.2]; rfl, rfl⟩
end Go.Proofs.Ythbomgjjdmogpaa
