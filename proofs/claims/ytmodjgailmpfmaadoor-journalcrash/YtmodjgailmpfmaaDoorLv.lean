/- JournalCrash: the loop's state, and what an answer makes of it. -/
import Derived.Test.YtmodjgailmpfmaaDoorLu
namespace Go.Proofs.YtmodjgailmpfmaaDoor
set_option linter.unusedSimpArgs false
set_option linter.unusedVariables false
open Go.RowKit Go.MapKept Go.Proofs
def QS (B : Nat) (w wr : World) (bs bm : Nat) (st : List Int) (j dp M : Nat) : Prop :=
  Fr B [] w wr ∧ B ≤ bs ∧ B ≤ bm ∧ bs ≠ bm ∧ Bx wr bs st ∧ Bx wr bm st ∧ st.length = 30 ∧ JE B [bs, bm] wr j dp st M
theorem DX.ext {B : Nat} {E E' : List Nat} {w : World} {dp : Nat} {st st2 : List Int} (h : DX B E w dp st st2) (hE : ∀ x ∈ E', x ∈ E) : DX B E' w dp st st2 := by
  obtain ⟨d, h1, h2⟩ := h; exact ⟨d, h1.ext (fun x hx => .inl (hE x hx)), h2⟩
def CP (B : Nat) (w : World) (bs bm bt : Nat) (st x : List Int) (j dp M : Nat) (e : Ending) (w9 : World) : Prop :=
  Fr B [] w w9 ∧ Bx w9 bs st ∧ Bx w9 bm st ∧ Bx w9 bt x ∧ ((e = .returned (.int .i64 0) ∧ JE B [bs, bm, bt] w9 j dp x M) ∨ (e = .returned (.int .i64 9) ∧ DX B [bs, bm, bt] w9 dp st x))
theorem CAns.cp {B : Nat} {w w8 w' : World} {bs bm bt j dp : Nat} {st x : List Int} {M : Nat} {e : Ending} (h : CAns B [bs, bm, bt] w w8 j dp st x M e w') (h1 : Bx w8 bs st) (h2 : Bx w8 bm st) (h3 : Bx w8 bt x) : CP B w bs bm bt st x j dp M e w' :=
  ⟨h.1, h.bx (by simp) h1, h.bx (by simp) h2, h.bx (by simp) h3, h.2.2⟩
theorem qs_ok {B : Nat} {w w9 : World} {bs bm bt j dp M : Nat} {st x : List Int} (hB1 : B ≤ bs) (hB2 : B ≤ bm) (hne : bs ≠ bm) (hx : x.length = 30) (hF : Fr B [] w w9) (s : Bx w9 bs st) (m : Bx w9 bm st) (h : JE B [bs, bm, bt] w9 j dp x M) : QS B w ((w9.setRow bs (av x)).setRow bm (av x)) bs bm x j dp M :=
  ⟨(hF.set hB1 _).set hB2 _, hB1, hB2, hne, (Bx.set s x).oth hne _, Bx.set (m.oth (fun e => hne e.symm) _) x, hx, ((h.set (by simp) _).set (by simp) _).ext (fun y hy => .inl (by simp at hy; rcases hy with rfl | rfl <;> simp))⟩
theorem qs_off {B : Nat} {w w9 : World} {bs bm bt dp : Nat} {st x : List Int} (hB2 : B ≤ bm) (hne : bs ≠ bm) (hst : st.length = 30) (hx : x.length = 30) (hF : Fr B [] w w9) (s : Bx w9 bs st) (m : Bx w9 bm st) (h : DX B [bs, bm, bt] w9 dp st x) : TZ B w (w9.setRow bm (av x)) bs bm st x dp :=
  ⟨hF.set hB2 _, s.oth hne _, Bx.set m x, hst, hx, (h.set (by simp) _).ext (fun y hy => by simp at hy; rcases hy with rfl | rfl <;> simp)⟩
theorem QS.tz {B : Nat} {w wr : World} {bs bm : Nat} {st : List Int} {j dp M : Nat} (h : QS B w wr bs bm st j dp M) : TZ B w wr bs bm st st dp := by
  obtain ⟨h1, _, _, _, h5, h6, h7, d, T, g1, g2, g3, _⟩ := h
  exact ⟨h1, h5, h6, h7, h7, d, g1.dev, g2.safe _, g3⟩
theorem QS.start {B : Nat} {w w4 : World} {j dp : Nat} (h : JC B w (w4.alloc (.cells (av z30) 30)) w4.heap.size z30 j dp 3) : QS B w (((w4.alloc (.cells (av z30) 30)).alloc (.cells (av z30) 30)).setRow (w4.heap.size + 1) (av z30)) w4.heap.size (w4.heap.size + 1) z30 j dp 3 := by
  obtain ⟨d, T, h1, h2, h3, h4, h5, h6⟩ := h
  obtain ⟨q1, q2, q3⟩ := boxed (w4.alloc (.cells (av z30) 30)) (av z30) (av z30)
  have s1 : (w4.alloc (.cells (av z30) 30)).heap.size = w4.heap.size + 1 := by show (w4.heap.push _).size = _; simp
  rw [s1] at q1 q2 q3
  have q1' : Below (w4.alloc (.cells (av z30) 30)).heap.size (w4.alloc (.cells (av z30) 30)) (((w4.alloc (.cells (av z30) 30)).alloc (.cells (av z30) 30)).setRow (w4.heap.size + 1) (av z30)) := by rw [s1]; exact q1
  exact ⟨h1.below q1', h2, by omega, by omega, Bx.below h3 q1', q2, h4, d, T, (h5.ext (fun x hx => by simp at hx; rcases hx with rfl | rfl; exact .inl (by simp); exact .inr (by omega))).below q1', h6⟩
end Go.Proofs.YtmodjgailmpfmaaDoor
