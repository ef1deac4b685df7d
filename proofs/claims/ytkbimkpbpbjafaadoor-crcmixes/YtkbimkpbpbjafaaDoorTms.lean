/- times: a matrix of 32 words over any word. -/
import Derived.Test.YtkbimkpbpbjafaaDoorMor
import Derived.Deep.WholeRow
namespace Go.Proofs.YtkbimkpbpbjafaaDoor
set_option linter.unusedSimpArgs false
set_option linter.unusedVariables false
open Go.RowKit
/-- The words of a matrix that belong to the digits of c, over one another. -/
def tl : List Nat → Nat → Nat
  | [], _ => 0
  | m :: r, c => (if c % 2 = 1 then m else 0) ^^^ tl r (c / 2)
theorem tl_zero (M : List Nat) : tl M 0 = 0 := by
  induction M with
  | nil => rfl
  | cons m r ih => simp [tl, ih]
theorem tl_drop (M : List Nat) (i C : Nat) (h : i < M.length) : tl (M.drop i) C = (if C % 2 = 1 then M.getD i 0 else 0) ^^^ tl (M.drop (i + 1)) (C / 2) := by
  rw [drop_cons M i h]; rfl
/-- Words as values. -/
def mv (M : List Nat) : Array Value := (M.map fun c => Value.int .u32 ((c : Nat) : Int)).toArray
theorem mv_size (M : List Nat) : (mv M).size = M.length := by simp [mv]
theorem mv_get (M : List Nat) (i : Nat) (h : i < M.length) : (mv M)[i]? = some (.int .u32 ((M.getD i 0 : Nat) : Int)) := by simp [mv, List.getD, h]
theorem mv_one (M : List Nat) : (mv M).all (·.oneCell') = true := by
  simp [mv]
  intros
  rfl
theorem Tryd.info38 : (Tryd.prog.info? 38).map (·.size) = some 32 := by kernel_rfl
set_option maxRecDepth 100000 in
theorem times_any (M : List Nat) (c : Nat) (w : World) (hM : M.length = 32) (hb : ∀ x, x ∈ M → x < 4294967296) (hc : c < 4294967296) :
    Calls Tryd.prog 18 #[.agg (mv M), .int .u32 c] w fun e w' => e = .returned (.int .u32 ((tl M c : Nat) : Int)) ∧ Below w.heap.size w w' := by
  obtain ⟨out, HO⟩ : ∃ out, Hid (tl M c = out) := ⟨_, rfl⟩
  rw [HO.out]
  have hcells : ∀ i, i < 32 → (w.alloc (.cells (mv M) 38)).cell? ⟨w.heap.size, i, none⟩ = some (.int .u32 ((M.getD i 0 : Nat) : Int)) := by
    intro i hi
    rw [cell_of_row _ w.heap.size i (mv M) 38 (0, 0) (heap_alloc_new w _)]
    exact mv_get M i (by omega)
  have hbel : Below w.heap.size w (w.alloc (.cells (mv M) 38)) := (Below.refl _ _).alloc (Nat.le_refl _) _
  have HB : Hid (∀ i, i < 32 → M.getD i 0 < 4294967296) := by
    intro i hi
    have : M.getD i 0 ∈ M := by simp [List.getD, show i < M.length by omega]
    exact hb _ this
  have HM : Hid (M.length = 32) := hM
  clear hM hb
  go_enter Tryd.func18, Tryd.ntmps18
  go_wp2
  go_loop [1, 4, 5] (fun v s i => ∃ (k C S : Nat), k ≤ 32 ∧ C < 2 ^ (32 - k) ∧ v = .int .u32 C ∧ s = .int .u32 S ∧ S < 4294967296 ∧ i = .int .i64 k ∧ S ^^^ tl (M.drop k) C = out) (fun v _ _ => (intOf v).toNat)
  case atStart => exact ⟨0, c, 0, by omega, by simpa using hc, rfl, rfl, by decide, rfl, by rw [Nat.zero_xor]; exact HO.out⟩
  case round =>
    obtain ⟨k, C, S, hk, hC, rfl, rfl, hS, rfl, hs⟩ := hrel
    by_cases h0 : C = 0
    · subst h0
      have HN : Hid (S = out) := by show _ = _; rw [← hs, tl_zero, Nat.xor_zero]
      clear hs
      go_wp2
      go_ret
      exact ⟨retI (by rw [HN.out]), hbel⟩
    · have h32 : k < 32 := by
        by_cases e : k = 32
        · subst e; simp at hC; omega
        · omega
      have hCb : C < 4294967296 := Nat.lt_of_lt_of_le hC (Nat.pow_le_pow_right (n := 2) (by decide) (show 32 - k ≤ 32 by omega))
      rw [tl_drop M k C (by rw [HM.out]; exact h32)] at hs
      have hC2 : C / 2 < 2 ^ (32 - (k + 1)) := by
        rw [show 32 - k = (32 - (k + 1)) + 1 by omega, Nat.pow_succ] at hC
        omega
      have HC2 : Hid (C / 2 < 2 ^ (32 - (k + 1))) := hC2
      have hne : ((C : Int) != 0) = true := by rw [bne_iff_ne]; omega
      have hcell := hcells k h32
      have hMb := HB.out k h32
      have h1 := and1 C hCb
      have hkI : (k : Int) < 32 := by omega
      clear hC hC2 hcells
      generalize M.getD k 0 = m at *
      rcases Nat.mod_two_eq_zero_or_one C with hp | hp
      · rw [hp] at h1
        have HN : Hid (S ^^^ tl (M.drop (k + 1)) (C / 2) = out) := by show _ = _; rw [← hs, hp]; simp
        clear hs hp
        go_wp2
        exact ⟨⟨k + 1, C / 2, S, by omega, HC2.out, by go_num, rfl, hS, by go_num, HN.out⟩, by simp [intOf]; omega⟩
      · rw [hp] at h1
        have hx := xor32 S m hS hMb
        have hxl := xor_lt32 hS hMb
        have HN : Hid ((S ^^^ m) ^^^ tl (M.drop (k + 1)) (C / 2) = out) := by show _ = _; rw [← hs, if_pos hp, Nat.xor_assoc]
        generalize S ^^^ m = S2 at *
        clear hs hp
        go_wp2
        exact ⟨⟨k + 1, C / 2, S2, by omega, HC2.out, by go_num, by go_num, hxl, by go_num, HN.out⟩, by simp [intOf]; omega⟩
end Go.Proofs.YtkbimkpbpbjafaaDoor
