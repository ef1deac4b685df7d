/- Numbers as bytes, without a walk: what is read out of bytes, what is laid into them. -/
import Derived.Test.YtaooidckmepdeaaDoorCrc
import Derived.Test.YtaooidckmepdeaaDoorMem
namespace Go.Proofs.YtaooidckmepdeaaDoor
set_option linter.unusedSimpArgs false
set_option linter.unusedVariables false
/-- Σ f j * 256^j, j < n. -/
def sm (f : Nat → Nat) : Nat → Nat
  | 0 => 0
  | n + 1 => sm f n + f n * 256 ^ n
theorem sm_lt (f : Nat → Nat) (hf : ∀ j, f j < 256) (n : Nat) : sm f n < 256 ^ n := by
  induction n with
  | zero => simp [sm]
  | succ n ih =>
    have h1 : f n * 256 ^ n ≤ 255 * 256 ^ n := Nat.mul_le_mul_right _ (by have := hf n; omega)
    simp only [sm, Nat.pow_succ]
    omega
theorem sm_congr (f g : Nat → Nat) (n : Nat) (h : ∀ j, j < n → f j = g j) : sm f n = sm g n := by
  induction n with
  | zero => rfl
  | succ n ih => simp only [sm]; rw [ih (fun j hj => h j (by omega)), h n (by omega)]
def plc (size : Nat) (big : Bool) (i : Nat) : Nat := if big then size - 1 - i else i
/-- The number of the bytes from p on. -/
def getV (l : List Nat) (p size : Nat) (big : Bool) : Nat := sm (fun j => l.getD (p + plc size big j) 0) size
/-- The bytes with the least 'size' bytes of V laid at p. -/
def putL (l : List Nat) (p size : Nat) (big : Bool) (V : Nat) : List Nat := (List.range l.length).map fun i => if p ≤ i ∧ i < p + size then V / 256 ^ plc size big (i - p) % 256 else l.getD i 0
theorem putL_length (l : List Nat) (p size : Nat) (big : Bool) (V : Nat) : (putL l p size big V).length = l.length := by simp [putL]
theorem putL_get (l : List Nat) (p size : Nat) (big : Bool) (V i : Nat) (h : i < l.length) : (putL l p size big V).getD i 0 = if p ≤ i ∧ i < p + size then V / 256 ^ plc size big (i - p) % 256 else l.getD i 0 := by
  simp [putL, List.getD, h]
theorem putL_lt (l : List Nat) (p size : Nat) (big : Bool) (V : Nat) (h : ∀ i, l.getD i 0 < 256) : ∀ i, (putL l p size big V).getD i 0 < 256 := by
  intro i
  by_cases hi : i < l.length
  · rw [putL_get _ _ _ _ _ _ hi]; split
    · omega
    · exact h i
  · rw [getD_out _ _ (by rw [putL_length]; omega)]; omega
end Go.Proofs.YtaooidckmepdeaaDoor
