/- Rows of records; Small, isBase. -/
import Derived.Test.YtaooidckmepdeaaDoorCk
import Derived.Test.YtaooidckmepdeaaDoorPd
import Derived.Test.YtaooidckmepdeaaDoorAlk
namespace Go.Proofs.YtaooidckmepdeaaDoor
set_option linter.unusedSimpArgs false
set_option linter.unusedVariables false
open Go.RowKit
/-- A batch. -/
structure Ba where
  base : Int
  span : Int
  prod : Int
  seq : Int
  rs : List Rc
/-- As a value, its records at a. -/
def bav (b : Ba) (a : Option Addr) (cap : Nat) : Value := .agg #[.int .i64 b.base, .int .i64 b.span, .int .i64 b.prod, .int .i64 b.seq, .slice a b.rs.length cap]
/-- The slice's address leads to these records. -/
def RRow (w : World) (a : Option Addr) (rs : List Rc) : Prop :=
  ∀ i, i < rs.length → ∃ b off, a = some ⟨b, off, none⟩ ∧ w.cell? ⟨b, off + i * 6, none⟩ = some (.bool (rs.getD i rz).hk) ∧ w.cell? ⟨b, off + i * 6 + 1, none⟩ = some (.string (rs.getD i rz).k) ∧ w.cell? ⟨b, off + i * 6 + 2, none⟩ = some (.bool (rs.getD i rz).hv) ∧ w.cell? ⟨b, off + i * 6 + 3, none⟩ = some (.string (rs.getD i rz).v) ∧ w.cell? ⟨b, off + i * 6 + 4, none⟩ = some (.int .i64 (rs.getD i rz).t) ∧ w.cell? ⟨b, off + i * 6 + 5, none⟩ = some (.int .i64 (rs.getD i rz).o)
theorem RRow.below {w w' : World} {a : Option Addr} {rs : List Rc} (h : RRow w a rs) (hb : Below w.heap.size w w') : RRow w' a rs := by
  intro i hi
  obtain ⟨b, off, e, h0, h1, h2, h3, h4, h5⟩ := h i hi
  exact ⟨b, off, e, (hb.cell (World.block_lt_of_cell? _ _ h0)).trans h0, (hb.cell (World.block_lt_of_cell? _ _ h1)).trans h1, (hb.cell (World.block_lt_of_cell? _ _ h2)).trans h2, (hb.cell (World.block_lt_of_cell? _ _ h3)).trans h3, (hb.cell (World.block_lt_of_cell? _ _ h4)).trans h4, (hb.cell (World.block_lt_of_cell? _ _ h5)).trans h5⟩
theorem RRow.nil (w : World) (a : Option Addr) : RRow w a [] := by intro i hi; simp at hi
/-- What Small answers. -/
def IsB (n : Nat) (e : Ending) : Prop := ∃ b, e = .returned (.bool b) ∧ (b = true → n ≤ 300)
set_option maxRecDepth 100000 in
theorem small_any (a : Option Addr) (cap : Nat) (rs : List Rc) (w : World) (hr : RRow w a rs) (hl : rs.length ≤ maxLen) :
    Calls Tryd.prog 21 #[.slice a rs.length cap] w fun e w' => IsB rs.length e ∧ Below w.heap.size w w' := by
  unfold maxLen at hl
  go_enter Tryd.func21, Tryd.ntmps21
  go_wp2_with fail
  go_loopw [3, 4] (fun n i wr => ∃ (k : Nat) (x : Int), k ≤ rs.length ∧ i = .int .i64 k ∧ n = .int .i64 x ∧ Below w.heap.size w wr) (fun _ i _ => rs.length - (intOf i).toNat)
  case atStart => exact ⟨0, _, by omega, rfl, rfl, Below.refl _ _⟩
  case round =>
    obtain ⟨k, x, hk, rfl, rfl, hb⟩ := hrel
    by_cases hlt : k < rs.length
    · have hltI : (k : Int) < (rs.length : Int) := by omega
      obtain ⟨b, off, rfl, z0, z1, z2, z3, z4, z5⟩ := (hr.below hb) k hlt
      clear hr
      generalize rs.getD k rz = r at *
      by_cases hx : x ≤ 20000
      · go_wp2
        go_quiet (fail)
        go_wp2
        exact ⟨⟨k + 1, _, by omega, by go_num, rfl, below_drewN hb _⟩, by simp [intOf]; omega⟩
      · go_wp2_with fail
        go_ret
        exact ⟨⟨false, rfl, fun c => by cases c⟩, hb⟩
    · obtain rfl : k = rs.length := by omega
      clear hr
      by_cases hx : x ≤ 20000
      · by_cases h3 : (rs.length : Int) ≤ 300
        · go_wp2_with fail
          go_ret
          exact ⟨⟨true, rfl, fun _ => by omega⟩, hb⟩
        · go_wp2_with fail
          go_ret
          exact ⟨⟨false, rfl, fun c => by cases c⟩, hb⟩
      · go_wp2_with fail
        go_ret
        exact ⟨⟨false, rfl, fun c => by cases c⟩, hb⟩
def baseB (z : Int) : Bool := decide (0 ≤ z ∧ z ≤ 1125899906842624)
theorem isBase_any (z : Int) (w : World) : Calls Tryd.prog 100 #[.int .i64 z] w fun e w' => e = .returned (.bool (baseB z)) ∧ w' = w := by
  by_cases h1 : 0 ≤ z
  · by_cases h2 : z ≤ 1125899906842624
    all_goals
      go_enter Tryd.func100, Tryd.ntmps100
      go_wp2
      go_ret
      simp [baseB, h1, h2]
  · go_enter Tryd.func100, Tryd.ntmps100
    go_wp2
    go_ret
    simp [baseB]
    omega
end Go.Proofs.YtaooidckmepdeaaDoor
