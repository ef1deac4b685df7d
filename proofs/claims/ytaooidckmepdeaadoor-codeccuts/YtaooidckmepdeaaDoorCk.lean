/- A record; isTime, Check, and the document's own odd and Check. -/
import Derived.Test.YtaooidckmepdeaaDoorZig
namespace Go.Proofs.YtaooidckmepdeaaDoor
set_option linter.unusedSimpArgs false
set_option linter.unusedVariables false
open Go.RowKit
/-- A record. -/
structure Rc where
  hk : Bool
  k : ByteArray
  hv : Bool
  v : ByteArray
  t : Int
  o : Int
def Rc.cells (r : Rc) : Array Value := #[.bool r.hk, .string r.k, .bool r.hv, .string r.v, .int .i64 r.t, .int .i64 r.o]
def timeB (t : Int) : Bool := decide (0 ≤ t ∧ t ≤ 1125899906842624)
theorem bcell {W w1 : World} (hb : Below W.heap.size W w1) : (∀ b o, b < W.heap.size → w1.cell? ⟨b, o, none⟩ = W.cell? ⟨b, o, none⟩) ∧ (∀ b o, b < W.heap.size → w1.frozen? ⟨b, o, none⟩ = W.frozen? ⟨b, o, none⟩) :=
  ⟨fun b o h => hb.cell (p := ⟨b, o, none⟩) h, fun b o h => hb.frozen (p := ⟨b, o, none⟩) h⟩
theorem isTime_any (t : Int) (w : World) : Calls Tryd.prog 105 #[.int .i64 t] w fun e w' => e = .returned (.bool (timeB t)) ∧ w' = w := by
  by_cases h1 : 0 ≤ t
  · by_cases h2 : t ≤ 1125899906842624
    all_goals
      go_enter Tryd.func105, Tryd.ntmps105
      go_wp2
      go_ret
      simp [timeB, h1, h2]
  · go_enter Tryd.func105, Tryd.ntmps105
    go_wp2
    go_ret
    simp [timeB]
    omega
/-- Check's answer. -/
def oddB (r : Rc) : Bool := (r.hk == false && !(r.k.toList == [])) || (r.hv == false && !(r.v.toList == [])) || timeB r.t == false || decide (r.o < 0) || decide (99 < r.o)
def chk (r : Rc) : Int := if oddB r = true then 1 else if 2000 < (r.k.size : Int) ∨ 2000 < (r.v.size : Int) then 2 else 0
theorem below_box {w : World} (o : Obj) : Below w.heap.size w (w.alloc o) := (Below.refl _ _).alloc (Nat.le_refl _) _
set_option maxRecDepth 100000 in
theorem check_any (r : Rc) (w : World) : Calls Tryd.prog 102 #[.agg r.cells] w fun e w' => e = .returned (.int .i64 (chk r)) ∧ Below w.heap.size w w' := by
  obtain ⟨hk, k, hv, v, t, o⟩ := r
  simp only [Rc.cells]
  obtain ⟨c, HC⟩ : ∃ c, Hid (chk ⟨hk, k, hv, v, t, o⟩ = c) := ⟨_, rfl⟩
  rw [HC.out]
  go_enter Tryd.func102, Tryd.ntmps102
  go_wp2_with (go_at_call 105; refine (isTime_any _ _).mono ?_; rintro e w' ⟨rfl, rfl⟩)
  all_goals
    go_ret
    refine ⟨retI ?_, below_box _⟩
    rw [← HC.out]
    clear HC
    simp only [chk, oddB]
    grind
theorem odd_any (r : Rc) (w : World) : Calls Tryd.prog 94 #[.agg r.cells] w fun e w' => e = .returned (.bool (oddB r)) ∧ Below w.heap.size w w' := by
  obtain ⟨hk, k, hv, v, t, o⟩ := r
  simp only [Rc.cells]
  obtain ⟨c, HC⟩ : ∃ c, Hid (oddB ⟨hk, k, hv, v, t, o⟩ = c) := ⟨_, rfl⟩
  rw [HC.out]
  go_enter Tryd.func94, Tryd.ntmps94
  go_wp2_with fail
  all_goals
    go_ret
    refine ⟨retB ?_, below_box _⟩
    rw [← HC.out]
    clear HC
    simp only [oddB, timeB]
    grind
theorem rcheck_any (r : Rc) (w : World) : Calls Tryd.prog 84 #[.agg r.cells] w fun e w' => e = .returned (.int .i64 (chk r)) ∧ Below w.heap.size w w' := by
  have HO : Hid _ := odd_any r
  obtain ⟨c, HC⟩ : ∃ c, Hid (chk r = c) := ⟨_, rfl⟩
  rw [HC.out]
  obtain ⟨hk, k, hv, v, t, o⟩ := r
  have HD : Hid (chk ⟨hk, k, hv, v, t, o⟩ = if oddB ⟨hk, k, hv, v, t, o⟩ = true then 1 else if 2000 < (k.size : Int) ∨ 2000 < (v.size : Int) then 2 else 0) := rfl
  simp only [Rc.cells] at HO ⊢
  generalize oddB ⟨hk, k, hv, v, t, o⟩ = b at *
  go_enter Tryd.func84, Tryd.ntmps84
  go_wp2_with (go_at_call 94; refine (HO.out _).mono ?_; rintro e w1 ⟨rfl, hb⟩; obtain ⟨hc, hf⟩ := bcell hb; have hz : w.heap.size < w1.heap.size := by (have := hb.size; simp at this; omega))
  all_goals
    go_ret
    refine ⟨retI ?_, (below_box _).trans (hb.mono (by simp))⟩
    rw [← HC.out, HD.out]
    clear HC HD HO hc hf hb
    grind
end Go.Proofs.YtaooidckmepdeaaDoor
