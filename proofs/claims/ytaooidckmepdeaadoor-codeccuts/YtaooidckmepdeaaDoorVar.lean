/- Varint of bits. -/
import Derived.Test.YtaooidckmepdeaaDoorZig
import Derived.OwnWalk
namespace Go.Proofs.YtaooidckmepdeaaDoor
set_option linter.unusedSimpArgs false
set_option linter.unusedVariables false
open Go.RowKit
/-- The groups, at most f + 1 of them. -/
def vr : Nat → Nat → List Nat
  | 0, v => [v]
  | f + 1, v => if v < 128 then [v] else (v % 128 + 128) :: vr f (v / 128)
def groups (v : Nat) : List Nat := vr 9 v
structure VrAt (out : List Nat) (acc : List Nat) (V : Nat) : Prop where
  len : acc.length ≤ 9
  lt : V < 2 ^ (64 - 7 * acc.length)
  go : acc ++ vr (9 - acc.length) V = out
theorem VrAt.start (V : Nat) (h : V ≤ 18446744073709551615) : VrAt (groups V) [] V := ⟨by simp, by simp; omega, rfl⟩
theorem VrAt.stop {out acc : List Nat} {V : Nat} (h : VrAt out acc V) (hV : V < 128) : acc ++ [V] = out := by
  rw [← h.go]
  generalize 9 - acc.length = f
  cases f <;> simp [vr, hV]
theorem VrAt.more {out acc : List Nat} {V : Nat} (h : VrAt out acc V) (hV : 128 ≤ V) : VrAt out (acc ++ [V % 128 + 128]) (V / 128) := by
  have h9 : acc.length ≠ 9 := by
    intro e
    have := h.lt
    rw [e] at this
    have e2 : 2 ^ (64 - 7 * 9) = 2 := by decide
    omega
  have hl := h.len
  refine ⟨by simp; omega, ?_, ?_⟩
  · have := h.lt
    rw [show 64 - 7 * acc.length = (64 - 7 * (acc ++ [V % 128 + 128]).length) + 7 by simp; omega, Nat.pow_add] at this
    omega
  · rw [← h.go, show 9 - acc.length = (9 - (acc ++ [V % 128 + 128]).length) + 1 by simp; omega]
    simp only [vr]
    rw [if_neg (by omega)]
    simp
theorem VrAt.bd {out acc : List Nat} {V : Nat} (h : VrAt out acc V) : V ≤ 18446744073709551615 := by
  have := h.lt
  have h2 := Nat.pow_le_pow_right (n := 2) (by decide) (show 64 - 7 * acc.length ≤ 64 by omega)
  omega
theorem or128_nat : ∀ x : Fin 256, x.val ||| 128 = x.val % 128 + 128 := by decide +kernel
theorem u8_or128' (V : Nat) : bits .or .u8 ((V : Int) % 256) 128 = ((V % 128 + 128 : Nat) : Int) := by
  rw [u8_or _ _ (by omega) (by omega) (by omega) (by omega)]
  have := or128_nat ⟨V % 256, by omega⟩
  simp only at this
  rw [show ((V : Int) % 256).toNat = V % 256 by omega, show ((128 : Int).toNat) = 128 by decide, this]
  omega
set_option maxHeartbeats 400000 in
set_option maxRecDepth 100000 in
theorem varint_any (V0 : Nat) (w : World) (hV : V0 ≤ 18446744073709551615) :
    Calls Tryd.prog 108 #[.int .u64 V0] w fun e w' => ∃ v, e = .returned v ∧ w'.ownsRow w.heap.size 5 1 v (groups V0).length (cv (groups V0)) ∧ Below w.heap.size w w' := by
  obtain ⟨i0, hi, hz0, hz1, hz2⟩ := info_parts Tryd.info5
  obtain ⟨out, HO⟩ : ∃ out, Hid (out = groups V0) := ⟨_, rfl⟩
  rw [← HO.out]
  go_enter Tryd.func108, Tryd.ntmps108
  go_wp2
  go_loopw [0, 2] (fun v b wr => ∃ (V : Nat) (acc : List Nat), v = .int .u64 V ∧ VrAt out acc V ∧ wr.ownsRow w.heap.size 5 1 b acc.length (cv acc) ∧ Below w.heap.size w wr) (fun v _ _ => (intOf v).toNat)
  case atStart => exact ⟨V0, [], rfl, by rw [HO.out]; exact VrAt.start V0 hV, World.ownsRow_nil _ _ _ _, Below.refl _ _⟩
  case round =>
    obtain ⟨V, acc, rfl, hA, hown, hbel⟩ := hrel
    have hVb := hA.bd
    have hlen := hA.len
    have hsz := hbel.size
    by_cases h128 : 128 ≤ V
    · have hm := hA.more h128
      have HM : Hid (VrAt out (acc ++ [V % 128 + 128]) (V / 128)) := hm
      have hor := u8_or128' V
      clear hm hA
      go_wp2_with (at_builtin; refine wpList_append_own _ rfl _ _ 29 rfl w.heap.size 5 i0 (.int .u8 0) 1 1 Tryd.underlying29 hi hz0 hz1 hz2 rfl (by decide) _ _ _ rfl (hown.alloc _) ⟨wr.heap.size, 0, none⟩ 1 1 (cv [V % 128 + 128]) rfl rfl (one_cell (by omega)) (cv_one _) (by unfold maxLen; omega) (by omega) (by simp; omega) ?_)
      intro v' w1 hown' hgrow _
      have R := own_step hown hbel hsz hown' hgrow
      clear hown' hgrow hown hbel
      go_wp2
      exact ⟨⟨V / 128, acc ++ [V % 128 + 128], by go_num, HM.out, R.1, R.2⟩, by simp [intOf]; omega⟩
    · have hst := hA.stop (by omega)
      have HS : Hid (acc ++ [V] = out) := hst
      clear hst hA
      have hv1 : ¬ 128 ≤ (V : Int) := by omega
      go_wp2_with (at_builtin; refine wpList_append_own _ rfl _ _ 29 rfl w.heap.size 5 i0 (.int .u8 0) 1 1 Tryd.underlying29 hi hz0 hz1 hz2 rfl (by decide) _ _ _ rfl (hown.alloc _) ⟨wr.heap.size, 0, none⟩ 1 1 (cv [V]) rfl rfl (one_cell rfl) (cv_one _) (by unfold maxLen; omega) (by omega) (by simp; omega) ?_)
      intro v' w1 hown' hgrow _
      have R := own_step hown hbel hsz hown' hgrow
      clear hown' hgrow hown hbel
      go_wp2
      go_ret
      exact ⟨v', rfl, by rw [← HS.out]; exact R.1, R.2⟩
theorem vr_lt (f V : Nat) (h : V < 2 ^ (7 * f + 7)) : ∀ i, (vr f V).getD i 0 < 256 := by
  induction f generalizing V with
  | zero =>
    intro i
    match i with
    | 0 => simp [vr]; omega
    | i + 1 => simp [vr]
  | succ f ih =>
    intro i
    simp only [vr]
    split
    · match i with
      | 0 => simp; omega
      | i + 1 => simp
    · match i with
      | 0 => simp; omega
      | i + 1 =>
        have := ih (V / 128) (by rw [show 7 * (f + 1) + 7 = (7 * f + 7) + 7 by omega, Nat.pow_add] at h; omega) i
        simpa using this
theorem groups_lt (V : Nat) (h : V ≤ 18446744073709551615) : ∀ i, (groups V).getD i 0 < 256 := vr_lt 9 V (by omega)
theorem vr_len (f V : Nat) : 1 ≤ (vr f V).length ∧ (vr f V).length ≤ f + 1 := by
  induction f generalizing V with
  | zero => simp [vr]
  | succ f ih =>
    simp only [vr]
    split
    · simp
    · have := ih (V / 128); simp; omega
theorem groups_len (V : Nat) : 1 ≤ (groups V).length ∧ (groups V).length ≤ 10 := vr_len 9 V
end Go.Proofs.YtaooidckmepdeaaDoor
