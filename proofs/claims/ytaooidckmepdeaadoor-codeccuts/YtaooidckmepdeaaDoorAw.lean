/- awake. -/
import Derived.Test.YtaooidckmepdeaaDoorKz
import Derived.Test.YtaooidckmepdeaaDoorAlk
namespace Go.Proofs.YtaooidckmepdeaaDoor
set_option linter.unusedSimpArgs false
set_option linter.unusedVariables false
open Go.RowKit
/-- No rows in it. -/
theorem bdok_plain {b : Bd} (w : World) (ht : Tab w) (h11 : (b 11).rs = []) (h17 : (b 17).nm = []) (h18 : (b 18).ct = []) (h19 : (b 19).bs = []) (ht2 : ∀ f, (b f).t.size ≤ 9223372036854775807) (hf : In64 (b 7).n) : BdOk w b (ptR none 0) := by
  refine ⟨ht, ?_, ?_, ?_, ⟨?_, ?_⟩, ?_, ?_, ?_, ?_, ?_, ?_, ?_, ht2, hf⟩
  · intro i hi; rw [h11] at hi; cases hi
  · intro i hi; rw [h17] at hi; cases hi
  · intro i hi; rw [h18] at hi; cases hi
  · intro i hi; cases hi
  · intro i hi; cases hi
  · rw [h19]; rfl
  · rw [h11]; decide
  · rw [h17]; decide
  · rw [h18]; decide
  · exact Nat.zero_le _
  · intro i hi; rw [h11] at hi; cases hi
  · intro i hi; rw [h17] at hi; cases hi
def bA : Bd := setB bdz 0 (vt ⟨#[97]⟩)
theorem vb_setT {t : ByteArray} : VB (setB bdz 0 (vt t)) := by
  refine ⟨fun f hf => ?_, fun f hf => ?_⟩
  · by_cases e : f = 0
    · subst e; simp [setB, kd, VK, vt]
    · have : setB bdz 0 (vt t) f = fz := by simp [setB, e, bdz]
      rw [this]
      rcases kd_cases f with q | q | q | q | q | q | q <;> rw [q] <;> simp [VK, fz, vn, vt, vr', vm, vc, vb, In64]
  · have e : f ≠ 0 := by omega
    simp [setB, e, bdz]
theorem bA_q : RqB bA false := ⟨vb_setT, rfl, rfl, rfl, rfl, rfl, rfl⟩
theorem bA_e : reqE 2 7 bA = some [2, 0, 0, 0, 7, 0, 1, 97] := by decide +kernel
theorem two_no : reqP [2] = none := by
  cases h : reqP [2] with
  | none => rfl
  | some x =>
    have : (reqP [2]).isNone = true := by decide +kernel
    rw [h] at this
    cases this
theorem EncP.some {L : List Nat} {w w' : World} {e : Ending} (h : EncP (some L) w e w') : ∃ a c, e = .returned (.tuple #[.slice a L.length c, .int .i64 0]) ∧ Row w' a L ∧ (a = none → c = 0) ∧ L.length ≤ c ∧ Below w.heap.size w w' := by
  obtain ⟨⟨v, z, rfl, hv, _⟩, hb⟩ := h
  obtain ⟨rfl, ho, hy, _⟩ := hv L rfl
  obtain ⟨a, c, rfl, hr, hn⟩ := owns_sl ho (lt_mem hy)
  refine ⟨a, c, rfl, hr, hn, ?_, hb⟩
  rcases ho.2 with ⟨e, h0⟩ | ⟨g, cap, cur, e, hB, hg, hle, _⟩
  · injection e; omega
  · injection e with e1 e2 e3; omega
end Go.Proofs.YtaooidckmepdeaaDoor
