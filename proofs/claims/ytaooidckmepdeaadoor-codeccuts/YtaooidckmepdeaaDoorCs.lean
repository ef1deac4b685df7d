/- crc's Sum over the table, as stage 2 has it. -/
import Derived.Test.YtaooidckmepdeaaDoorPn
import Derived.Test.YtaooidckmepdeaaDoorAlk
namespace Go.Proofs.YtaooidckmepdeaaDoor
set_option linter.unusedSimpArgs false
set_option linter.unusedVariables false
open Go.RowKit
theorem bdu32 {a : Int} (h : (Lit.int .u32 a).wf = true) : 0 ≤ a ∧ a ≤ 4294967295 := by
  simpa [Lit.wf, IntKind.min, IntKind.max, IntKind.signed, IntKind.bits] using h
theorem xor_lt32 {a b : Nat} (h : a < 4294967296) (h2 : b < 4294967296) : a ^^^ b < 4294967296 := Nat.xor_lt_two_pow (n := 32) h h2
theorem xor32 (a b : Nat) (h : a < 4294967296) (h2 : b < 4294967296) : bits .xor .u32 (a : Int) (b : Int) = ((a ^^^ b : Nat) : Int) := u32_xor_nat a b h h2
theorem drop_cons (l : List Nat) (k : Nat) (h : k < l.length) : l.drop k = l.getD k 0 :: l.drop (k + 1) := by
  rw [List.drop_eq_getElem_cons h]; simp [List.getD, h]
theorem reg_drop (c : Nat) (l : List Nat) (k : Nat) (h : k < l.length) : P.reg c (l.drop k) = P.reg (P.stp c (l.getD k 0)) (l.drop (k + 1)) := by
  rw [drop_cons l k h]; rfl
theorem ones_xor (c : Nat) (h : c < 4294967296) : bits .xor .u32 IntKind.u32.max (c : Int) = ((P.ones ^^^ c : Nat) : Int) := xor32 4294967295 c (by decide) h
theorem Row.bd {w : World} {a : Option Addr} {l : List Nat} (h : Row w a l) : ∀ x, x ∈ l → x < 256 := by
  intro x hx
  obtain ⟨i, hi, rfl⟩ := List.getElem_of_mem hx
  obtain ⟨_, _, _, _, hl⟩ := h i hi
  simpa [List.getD, hi] using hl
theorem more_lt (c : Nat) (l : List Nat) (hc : c < 4294967296) (hl : ∀ x, x ∈ l → x < 256) : P.more c l < 4294967296 :=
  xor_lt32 (by decide) (P.reg_lt l _ (xor_lt32 (by decide) hc) hl)
theorem sum_lt (l : List Nat) (hl : ∀ x, x ∈ l → x < 256) : P.sum l < 4294967296 := more_lt 0 l (by decide) hl
/-- The table: what becomes of each four digits. -/
def Tab (w : World) : Prop := ∀ i, i < 16 → w.cell? ⟨0, i, none⟩ = some (.int .u32 ((P.shN 4 i : Nat) : Int))
theorem Tab.below {w w' : World} (h : Tab w) (hb : Below w.heap.size w w') : Tab w' := by
  intro i hi
  rw [hb.cell (World.block_lt_of_cell? _ _ (h i hi))]; exact h i hi
theorem Tab.drewN {w : World} (h : Tab w) (n : Nat) : Tab (w.drewN n) := h
theorem nib (c : Nat) : c / 16 ^^^ P.shN 4 (c % 16) = P.shN 4 c := by
  have h1 : c = 2 ^ 4 * (c / 16) ^^^ c % 16 := by
    have hy : c % 16 < 2 ^ 4 := Nat.mod_lt _ (by decide)
    have := Nat.two_pow_add_eq_or_of_lt hy (c / 16)
    have h0 : 2 ^ 4 * (c / 16) + c % 16 = c := Nat.div_add_mod c 16
    rw [this] at h0
    apply Nat.eq_of_testBit_eq
    intro i
    have e := congrArg (·.testBit i) h0
    simp only [Nat.testBit_or] at e
    rw [← e, Nat.testBit_xor, Nat.testBit_two_pow_mul]
    by_cases hi : 4 ≤ i
    · have : (c % 16).testBit i = false := Nat.testBit_lt_two_pow (Nat.lt_of_lt_of_le hy (Nat.pow_le_pow_right (n := 2) (by decide) hi))
      simp [this]
    · simp [hi]
  conv => rhs; rw [h1, P.shN_xor, P.shN_pow]
theorem and15 (c : Nat) (h : c < 4294967296) : bits .and .u32 (c : Int) 15 = ((c % 16 : Nat) : Int) := by
  have := u32_and_nat c 15 h (by decide)
  rw [nat_mask4] at this
  exact this
theorem nibI (c : Nat) (h : c < 4294967296) : bits .xor .u32 ((c : Int) / 16) ((P.shN 4 (c % 16) : Nat) : Int) = ((P.shN 4 c : Nat) : Int) := by
  have := xor32 (c / 16) (P.shN 4 (c % 16)) (by omega) (P.shN_lt _ _ (by omega))
  rw [nib] at this
  exact this
theorem more_any (c : Nat) (a : Option Addr) (cap : Nat) (l : List Nat) (w : World) (ht : Tab w) (hc : c < 4294967296) (hr : Row w a l) (hl : l.length ≤ maxLen) :
    Calls Tryd.prog 91 #[.int .u32 c, .slice a l.length cap] w fun e w' => e = .returned (.int .u32 ((P.more c l : Nat) : Int)) ∧ w' = w := by
  unfold maxLen at hl
  obtain ⟨out, HO⟩ : ∃ out, Hid (P.reg (P.ones ^^^ c) l = out) := ⟨_, rfl⟩
  have HM : Hid (P.more c l = P.ones ^^^ out) := by show _ = _; rw [P.more, HO.out]
  rw [HM.out]
  have ho := ones_xor c hc
  have hol : P.ones ^^^ c < 4294967296 := xor_lt32 (by decide) hc
  generalize P.ones ^^^ c = d at *
  clear HM
  go_enter Tryd.func91, Tryd.ntmps91
  go_wp2
  go_loop [0, 11] (fun v i => ∃ (k C : Nat), k ≤ l.length ∧ v = .int .u32 C ∧ i = .int .i64 k ∧ C < 4294967296 ∧ P.reg C (l.drop k) = out) (fun _ i => l.length - (intOf i).toNat)
  case atStart => exact ⟨0, d, by omega, rfl, rfl, hol, by simpa using HO.out⟩
  case round =>
    obtain ⟨k, C, hk, rfl, rfl, hC, hs⟩ := hrel
    by_cases hlt : k < l.length
    · obtain ⟨b, off, rfl, hcell, hx⟩ := hr k hlt
      rw [reg_drop C l k hlt] at hs
      have hS := P.stp_lt C _ hC hx
      have HS : Hid (P.reg (P.stp C (l.getD k 0)) (l.drop (k + 1)) = out) := hs
      have hltI : (k : Int) < (l.length : Int) := by omega
      clear hs hr
      generalize l.getD k 0 = x at *
      have hX := xor32 C x hC (by omega)
      have hXl := xor_lt32 hC (show x < 4294967296 by omega)
      have HE : Hid (P.stp C x = P.shN 4 (P.shN 4 (C ^^^ x))) := by show _ = _; rw [← P.shN_add]; rfl
      generalize C ^^^ x = y at *
      have hY := nibI y hXl
      have hYl := P.shN_lt 4 y hXl
      have hY2 := and15 y hXl
      have hYc := ht (y % 16) (by omega)
      have hYm : y % 16 < 16 := by omega
      rw [HE.out] at HS hS
      generalize P.shN 4 (y % 16) = t1 at *
      generalize P.shN 4 y = z at *
      generalize y % 16 = y16 at *
      have hZ := nibI z hYl
      have hZ2 := and15 z hYl
      have hZc := ht (z % 16) (by omega)
      have hZm : z % 16 < 16 := by omega
      generalize P.shN 4 (z % 16) = t2 at *
      generalize P.shN 4 z = D at *
      generalize z % 16 = z16 at *
      clear ht HE
      go_wp2
      exact ⟨⟨k + 1, D, by omega, by go_num, by go_num, hS, HS.out⟩, by simp [intOf]; omega⟩
    · obtain rfl : k = l.length := by omega
      have HN : Hid (C = out) := by show _ = _; rw [← hs, List.drop_length]; rfl
      have h2 := ones_xor C hC
      clear hs hr
      go_wp2
      go_ret
      exact ⟨retI (by rw [HN.out]), rfl⟩
theorem sum_any (a : Option Addr) (cap : Nat) (l : List Nat) (w : World) (ht : Tab w) (hr : Row w a l) (hl : l.length ≤ maxLen) :
    Calls Tryd.prog 92 #[.slice a l.length cap] w fun e w' => e = .returned (.int .u32 ((P.sum l : Nat) : Int)) ∧ w' = w := by
  go_enter Tryd.func92, Tryd.ntmps92
  go_wp2_with (go_at_call 91; refine (more_any 0 _ _ _ _ ht (by decide) hr hl).mono ?_; rintro e w' ⟨rfl, rfl⟩)
  go_ret
  exact ⟨rfl, rfl⟩
end Go.Proofs.YtaooidckmepdeaaDoor
