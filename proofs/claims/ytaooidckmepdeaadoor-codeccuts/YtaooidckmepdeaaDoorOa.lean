/- What comes in: rows of records, batches by value, opened. -/
import Derived.Test.YtaooidckmepdeaaDoorBe
import Derived.Test.YtaooidckmepdeaaDoorFh
import Derived.Test.YtaooidckmepdeaaDoorOp
import Derived.Deep.Slices
import Derived.ChangeSlices
namespace Go.Proofs.YtaooidckmepdeaaDoor
set_option linter.unusedSimpArgs false
set_option linter.unusedVariables false
open Go.RowKit Go.ChangeShapes Go.WideShapes Go.ChangeAt
/-- What comes in as a batch. -/
def BaOk (w : World) (b : Ba) (a : Option Addr) (cap : Nat) : Prop := RRow w a b.rs ∧ In64B b ∧ b.rs.length ≤ maxLen ∧ (a = none → cap = 0) ∧ ((Lit.int .i64 b.base).wf = true ∧ (Lit.int .i64 b.span).wf = true)
theorem cells24 : Tryd.prog.cellsOf 24 = 1 := by kernel_rfl
theorem cells85 : Tryd.prog.cellsOf 85 = 5 := by kernel_rfl
theorem list_of {α : Type} (dflt : α) (R : Nat → α → Prop) (L : Nat) (h : ∀ i, i < L → ∃ a, R i a) : ∃ l : List α, l.length = L ∧ ∀ i, i < L → R i (l.getD i dflt) := by
  induction L with
  | zero => exact ⟨[], rfl, fun i hi => by omega⟩
  | succ L ih =>
    obtain ⟨l, hl, hr⟩ := ih (fun i hi => h i (by omega))
    obtain ⟨a, ha⟩ := h L (by omega)
    refine ⟨l ++ [a], by simp [hl], fun i hi => ?_⟩
    by_cases e : i < L
    · have : (l ++ [a]).getD i dflt = l.getD i dflt := by simp [List.getD, List.getElem?_append, show i < l.length by omega]
      rw [this]; exact hr i e
    · obtain rfl : i = L := by omega
      have : (l ++ [a]).getD i dflt = a := by simp [List.getD, ← hl]
      rw [this]; exact ha
set_option maxRecDepth 100000 in
theorem recs_of {H : Type} {enc : TypeId × Value → H} {W : World} {base fuel : Nat} {sp : Nat → Bool} {held : Bool} {a0 : Option Addr} {L cap0 : Nat} {x : DataW H × List MemPlace}
    (h : DataW.trod enc Tryd.prog W base sp held fuel 24 [.slice a0 L cap0] = some x) : ∃ rs : List Rc, L = rs.length ∧ RRow W a0 rs ∧ rs.length ≤ maxLen ∧ (a0 = none → cap0 = 0) := by
  rcases Go.Deep.open_slice Tryd.underlying24 h with ⟨hcs, _⟩ | ⟨ad, len, cap, m, n, D, Pl, hcs, _, hl, hm, hmm, _, hx⟩
  · simp at hcs
    obtain ⟨rfl, rfl, rfl⟩ := hcs
    exact ⟨[], rfl, RRow.nil _ _, by simp, fun _ => rfl⟩
  · simp at hcs
    obtain ⟨rfl, rfl, rfl⟩ := hcs
    have hlm : L ≤ m := by rw [hmm]; split <;> omega
    have each : ∀ i, i < L → ∃ r : Rc, ∃ b off, some ad = some ⟨b, off, none⟩ ∧ W.cell? ⟨b, off + i * 6, none⟩ = some (.bool r.hk) ∧ W.cell? ⟨b, off + i * 6 + 1, none⟩ = some (.string r.k) ∧ W.cell? ⟨b, off + i * 6 + 2, none⟩ = some (.bool r.hv) ∧ W.cell? ⟨b, off + i * 6 + 3, none⟩ = some (.string r.v) ∧ W.cell? ⟨b, off + i * 6 + 4, none⟩ = some (.int .i64 r.t) ∧ W.cell? ⟨b, off + i * 6 + 5, none⟩ = some (.int .i64 r.o) := by
      intro i hi
      have hsp : ad.spot = none := by
        obtain ⟨cs0, h10, _⟩ := hx 0 (by omega)
        rw [cells87] at h10
        obtain ⟨_, hlen0, hcell0⟩ := World.cells?_some h10
        have e := hcell0 0 (by omega)
        rw [List.getElem?_eq_getElem (by omega)] at e
        simpa [Addr.add] using World.cell?_spot e
      obtain ⟨b, off, spot⟩ := ad
      simp only at hsp
      subst hsp
      obtain ⟨cs', h1, h2⟩ := hx i (by omega)
      rw [cells87] at h1
      obtain ⟨_, hlen, hcell⟩ := World.cells?_some h1
      obtain ⟨xs, k, hk, hxy, _, hxl, hf⟩ := DataW.trod_struct Tryd.underlying87 h2
      match xs, hxl, cs', hlen with
      | [y0, y1, y2, y3, y4, y5], _, [v0, v1, v2, v3, v4, v5], _ =>
        have g0 := hf 0 _ rfl
        have g1 := hf 1 _ rfl
        have g2 := hf 2 _ rfl
        have g3 := hf 3 _ rfl
        have g4 := hf 4 _ rfl
        have g5 := hf 5 _ rfl
        simp [cells3, cells4, cells9] at g0 g1 g2 g3 g4 g5
        have e0 := hcell 0 (by omega)
        have e1 := hcell 1 (by omega)
        have e2 := hcell 2 (by omega)
        have e3 := hcell 3 (by omega)
        have e4 := hcell 4 (by omega)
        have e5 := hcell 5 (by omega)
        obtain ⟨n0, q0, _⟩ := DataW.trod_bool Tryd.underlying4 g0
        obtain ⟨n1, q1, _, w1⟩ := DataW.trod_string Tryd.underlying9 g1
        obtain ⟨n2, q2, _⟩ := DataW.trod_bool Tryd.underlying4 g2
        obtain ⟨n3, q3, _, w3⟩ := DataW.trod_string Tryd.underlying9 g3
        obtain ⟨n4, q4, _, w4⟩ := DataW.trod_int Tryd.underlying3 g4
        obtain ⟨n5, q5, _, w5⟩ := DataW.trod_int Tryd.underlying3 g5
        simp at q0 q1 q2 q3 q4 q5
        subst q0; subst q1; subst q2; subst q3; subst q4; subst q5
        rw [Addr.add_lit, Addr.add_lit] at e0 e1 e2 e3 e4 e5
        simp at e0 e1 e2 e3 e4 e5
        exact ⟨⟨n0, n1, n2, n3, n4, n5⟩, b, off, rfl, e0, e1, e2, e3, e4, e5⟩
    obtain ⟨l, hll, hr⟩ := list_of rz _ L each
    exact ⟨l, hll.symm, fun i hi => by rw [hll] at hi; exact hr i hi, by omega, fun c => by cases c⟩
theorem array5 {α : Type} {cs : Array α} (h : cs.size = 5) : ∃ c0 c1 c2 c3 c4, cs = #[c0, c1, c2, c3, c4] := by
  obtain ⟨l⟩ := cs
  match l, h with
  | [c0, c1, c2, c3, c4], _ => exact ⟨c0, c1, c2, c3, c4, rfl⟩
set_option maxRecDepth 100000 in
theorem bat_of {H : Type} {enc : TypeId × Value → H} {W : World} {r : Reach} {base b0 : Nat} {sp : Nat → Bool} {held : Bool} {v : Value} {d : DataW H} {p : List MemPlace}
    (hv : Value.okWide Tryd.prog W r b0 85 v) (h : DataW.Trod enc Tryd.prog W base sp held 85 v d p) : ∃ (b : Ba) (a : Option Addr) (cap : Nat), v = bav b a cap ∧ BaOk W b a cap := by
  obtain ⟨cs, rfl, hsz⟩ := okWide_struct Tryd.underlying85 hv
  obtain ⟨c0, c1, c2, c3, c4, rfl⟩ := array5 (hsz.trans cells85)
  obtain ⟨fuel, hf⟩ := h
  obtain ⟨xs, k, hk, hxy, _, hxl, hg⟩ := DataW.trod_struct Tryd.underlying85 hf
  match xs, hxl with
  | [y0, y1, y2, y3, y4], _ =>
    have g0 := hg 0 _ rfl
    have g1 := hg 1 _ rfl
    have g2 := hg 2 _ rfl
    have g3 := hg 3 _ rfl
    have g4 := hg 4 _ rfl
    simp [cells3, cells24, Value.cells] at g0 g1 g2 g3 g4
    obtain ⟨n0, q0, _, w0⟩ := DataW.trod_int Tryd.underlying3 g0
    obtain ⟨n1, q1, _, w1⟩ := DataW.trod_int Tryd.underlying3 g1
    obtain ⟨n2, q2, _, w2⟩ := DataW.trod_int Tryd.underlying3 g2
    obtain ⟨n3, q3, _, w3⟩ := DataW.trod_int Tryd.underlying3 g3
    simp at q0 q1 q2 q3
    subst q0; subst q1; subst q2; subst q3
    obtain ⟨a1, l1, k1, rfl⟩ : ∃ a1 l1 c1, c4 = .slice a1 l1 c1 := by
      rcases Go.Deep.open_slice Tryd.underlying24 g4 with ⟨hcs, _⟩ | ⟨ad, len, cap, m, n, D, Pl, hcs, _⟩
      · simp at hcs; exact ⟨_, _, _, hcs⟩
      · simp at hcs; exact ⟨_, _, _, hcs⟩
    obtain ⟨rs, rfl, hr, hl, hn⟩ := recs_of g4
    exact ⟨⟨n0, n1, n2, n3, rs⟩, a1, k1, rfl, hr, ⟨(bd64 w2).2, (bd64 w3).2⟩, hl, hn, w0, w1⟩
end Go.Proofs.YtaooidckmepdeaaDoor
