/- What comes in: a record by value, opened; a row of bytes. -/
import Derived.Test.YtaooidckmepdeaaDoorCk
import Derived.WalkKit
import Derived.OpenShut
import Derived.ChangeSame
namespace Go.Proofs.YtaooidckmepdeaaDoor
set_option linter.unusedSimpArgs false
set_option linter.unusedVariables false
open Go.ChangeShapes Go.WideShapes Go.ChangeAt Go.RowKit
/-- The bytes of a slice that came in. -/
def Came (w : World) (a : Option Addr) (cap : Nat) (l : List Nat) : Prop := Row w a l ∧ l.length ≤ cap ∧ cap ≤ maxLen ∧ l.length ≤ 140737488351232 ∧ (a = none → cap = 0)
theorem cells87 : Tryd.prog.cellsOf 87 = 6 := by kernel_rfl
theorem cells3 : Tryd.prog.cellsOf 3 = 1 := by kernel_rfl
theorem cells4 : Tryd.prog.cellsOf 4 = 1 := by kernel_rfl
theorem cells9 : Tryd.prog.cellsOf 9 = 1 := by kernel_rfl
theorem array6 {α : Type} {cs : Array α} (h : cs.size = 6) : ∃ c0 c1 c2 c3 c4 c5, cs = #[c0, c1, c2, c3, c4, c5] := by
  obtain ⟨l⟩ := cs
  match l, h with
  | [c0, c1, c2, c3, c4, c5], _ => exact ⟨c0, c1, c2, c3, c4, c5, rfl⟩
def RcOk (r : Rc) : Prop := (Lit.int .i64 r.t).wf = true ∧ (Lit.int .i64 r.o).wf = true ∧ r.k.size ≤ maxLen ∧ r.v.size ≤ maxLen
set_option maxRecDepth 100000 in
theorem rec_of {H : Type} {enc : TypeId × Value → H} {W : World} {r : Reach} {base b0 : Nat} {sp : Nat → Bool} {held : Bool} {v : Value} {d : DataW H} {p : List MemPlace}
    (hv : Value.okWide Tryd.prog W r b0 87 v) (h : DataW.Trod enc Tryd.prog W base sp held 87 v d p) : ∃ q : Rc, v = .agg q.cells ∧ RcOk q := by
  obtain ⟨cs, rfl, hsz⟩ := okWide_struct Tryd.underlying87 hv
  obtain ⟨c0, c1, c2, c3, c4, c5, rfl⟩ := array6 (hsz.trans cells87)
  obtain ⟨fuel, hf⟩ := h
  obtain ⟨xs, k, hk, hxy, _, hxl, hg⟩ := DataW.trod_struct Tryd.underlying87 hf
  match xs, hxl with
  | [y0, y1, y2, y3, y4, y5], _ =>
    have g0 := hg 0 _ rfl
    have g1 := hg 1 _ rfl
    have g2 := hg 2 _ rfl
    have g3 := hg 3 _ rfl
    have g4 := hg 4 _ rfl
    have g5 := hg 5 _ rfl
    simp [cells3, cells4, cells9, Value.cells] at g0 g1 g2 g3 g4 g5
    obtain ⟨n0, q0, _⟩ := DataW.trod_bool Tryd.underlying4 g0
    obtain ⟨n1, q1, _, w1⟩ := DataW.trod_string Tryd.underlying9 g1
    obtain ⟨n2, q2, _⟩ := DataW.trod_bool Tryd.underlying4 g2
    obtain ⟨n3, q3, _, w3⟩ := DataW.trod_string Tryd.underlying9 g3
    obtain ⟨n4, q4, _, w4⟩ := DataW.trod_int Tryd.underlying3 g4
    obtain ⟨n5, q5, _, w5⟩ := DataW.trod_int Tryd.underlying3 g5
    simp at q0 q1 q2 q3 q4 q5
    subst q0; subst q1; subst q2; subst q3; subst q4; subst q5
    exact ⟨⟨n0, n1, n2, n3, n4, n5⟩, rfl, ⟨w4, w5, w1, w3⟩⟩
end Go.Proofs.YtaooidckmepdeaaDoor
