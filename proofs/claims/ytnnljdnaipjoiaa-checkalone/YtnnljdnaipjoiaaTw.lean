/- Two Logs apart. -/
import Derived.Test.YtnnljdnaipjoiaaSl
namespace Go.Proofs.Ytnnljdnaipjoiaa
set_option linter.unusedSimpArgs false
set_option linter.unusedVariables false
open Go.RowKit Go.MapKept
theorem LogIs.keeps {y z : World} {p : Nat} {v1 v2 v3 : Option Nat} {S : LS} {F : List Nat} (h : LogIs y p v1 v2 v3 S) (k : Keeps F y z) (hd : ∀ b, b ∈ logE p v1 v2 v3 → b ∉ F) : LogIs z p v1 v2 v3 S :=
  ⟨(k.block p h.lt (hd p (mem_logE.2 (.inl rfl)))).trans h.box, h.m1.keep (fun b e => k.block b (h.m1.lt b e) (hd b (mem_logE.2 (.inr (.inl e))))), h.m2.keep (fun b e => k.block b (h.m2.lt b e) (hd b (mem_logE.2 (.inr (.inr (.inl e)))))), h.m3.keep (fun b e => k.block b (h.m3.lt b e) (hd b (mem_logE.2 (.inr (.inr (.inr e)))))), h.d12, h.d13, h.d23⟩
theorem LogIs.blocks {y : World} {p : Nat} {v1 v2 v3 : Option Nat} {S : LS} (h : LogIs y p v1 v2 v3 S) : ∀ b, b ∈ logE p v1 v2 v3 → b < y.heap.size := fun b hb => by
  rcases mem_logE.1 hb with rfl | e | e | e
  · exact h.lt
  · exact h.m1.lt b e
  · exact h.m2.lt b e
  · exact h.m3.lt b e
def TwoL (B : Nat) (w0 : World) (p1 : Nat) (S1 : LS) (p2 : Nat) (S2 : LS) (y : World) : Prop :=
  ∃ v1 v2 v3 u1 u2 u3, LogIs y p1 v1 v2 v3 S1 ∧ LogIs y p2 u1 u2 u3 S2 ∧ (∀ b, b ∈ logE p1 v1 v2 v3 → b ∉ logE p2 u1 u2 u3) ∧ (∀ b, b ∈ logE p1 v1 v2 v3 → B ≤ b) ∧ (∀ b, b ∈ logE p2 u1 u2 u3 → B ≤ b) ∧ Below B w0 y ∧ B ≤ y.heap.size
theorem TwoL.swap {B : Nat} {w0 y : World} {p1 p2 : Nat} {S1 S2 : LS} (h : TwoL B w0 p1 S1 p2 S2 y) : TwoL B w0 p2 S2 p1 S1 y := by
  obtain ⟨v1, v2, v3, u1, u2, u3, h1, h2, h3, h4, h5, h6, h7⟩ := h
  exact ⟨u1, u2, u3, v1, v2, v3, h2, h1, fun b hb hc => h3 b hc hb, h5, h4, h6, h7⟩
theorem TwoL.below {B : Nat} {w0 y z : World} {p1 p2 : Nat} {S1 S2 : LS} (h : TwoL B w0 p1 S1 p2 S2 y) (hb : Below y.heap.size y z) : TwoL B w0 p1 S1 p2 S2 z := by
  obtain ⟨v1, v2, v3, u1, u2, u3, h1, h2, h3, h4, h5, h6, h7⟩ := h
  exact ⟨v1, v2, v3, u1, u2, u3, h1.below hb, h2.below hb, h3, h4, h5, h6.trans (hb.mono h7), Nat.le_trans h7 hb.size⟩
theorem TwoL.bel {B : Nat} {w0 y : World} {p1 p2 : Nat} {S1 S2 : LS} (h : TwoL B w0 p1 S1 p2 S2 y) : Below B w0 y := by
  obtain ⟨v1, v2, v3, u1, u2, u3, h1, h2, h3, h4, h5, h6, h7⟩ := h
  exact h6
theorem TwoL.start {B : Nat} {w0 w : World} (hb : Below B w0 w) (hB : B ≤ w.heap.size) : TwoL B w0 w.heap.size ls0 (w.heap.size + 1) ls0 ((w.alloc (.cells #[.map none, .map none, .map none] 59)).alloc (.cells #[.map none, .map none, .map none] 59)) := by
  have l2 := LogIs.zero (w.alloc (.cells #[.map none, .map none, .map none] 59))
  rw [show (w.alloc (.cells #[.map none, .map none, .map none] 59)).heap.size = w.heap.size + 1 by simp] at l2
  refine ⟨none, none, none, none, none, none, (LogIs.zero w).below (below_box _), l2, ?_, ?_, ?_, ?_, by simp; omega⟩
  · intro b hb hc
    simp [logE] at hb hc
    omega
  · intro b hb
    simp [logE] at hb
    omega
  · intro b hb
    simp [logE] at hb
    omega
  · exact hb.trans (((below_box _).trans ((below_box _).mono (by simp))).mono hB)
/-- Cells that hold no map stay. -/
def CKeep (y z : World) : Prop := ∀ g o v, y.cell? ⟨g, o, none⟩ = some v → (∀ m, v ≠ .map m) → z.cell? ⟨g, o, none⟩ = some v
theorem CKeep.of {y z : World} {p : Nat} {v1 v2 v3 : Option Nat} {S : LS} (h : LogIs y p v1 v2 v3 S) (k : Keeps (logE p v1 v2 v3) y z) : CKeep y z := fun g o v hc hv => by
  have hlt := World.block_lt_of_cell? _ _ hc
  have hn : g ∉ logE p v1 v2 v3 := fun hg => by
    rcases mem_logE.1 hg with rfl | e | e | e
    · have hb := h.box
      rw [cell_of_row _ _ o _ _ _ hb] at hc
      match o, hc with
      | 0, hc => injection hc with hc; exact hv _ hc.symm
      | 1, hc => injection hc with hc; exact hv _ hc.symm
      | 2, hc => injection hc with hc; exact hv _ hc.symm
      | n + 3, hc => simp at hc
    · obtain ⟨es, c, hb⟩ := h.m1.isMap g e; exact cell_nomap hc hb
    · obtain ⟨es, c, hb⟩ := h.m2.isMap g e; exact cell_nomap hc hb
    · obtain ⟨es, c, hb⟩ := h.m3.isMap g e; exact cell_nomap hc hb
  rw [World.cell?_of_block (a := ⟨g, o, none⟩) (k.block g hlt hn)]
  exact hc
theorem TwoL.saw {B : Nat} {w0 y : World} {p1 p2 : Nat} {S1 S2 : LS} (h : TwoL B w0 p1 S1 p2 S2 y) (tp : ByteArray) (pt st nx fr : Int) (a : Option Addr) (cap : Nat) (ss : List Bs) (hi : BIn y a ss) (ht : tp.size ≤ 281474976710656) (hN : In64 fr ∧ In64 st ∧ In64 nx) :
    Calls Try.prog 11 #[.pointer (some ⟨p1, 0, none⟩), .string tp, .int .i64 pt, .int .i64 st, .int .i64 nx, .int .i64 fr, .slice a ss.length cap] y fun e z => e = .returned (.int .i64 (saw S1 (tp, pt) st nx fr (bsOf ss)).1) ∧ TwoL B w0 p1 (saw S1 (tp, pt) st nx fr (bsOf ss)).2 p2 S2 z ∧ CKeep y z := by
  obtain ⟨v1, v2, v3, u1, u2, u3, h1, h2, h3, h4, h5, h6, h7⟩ := h
  refine (saw_any p1 v1 v2 v3 S1 tp pt st nx fr a cap ss y h1 hi ht hN).mono fun e z ⟨t1, t2, t3, e1, e2, e3, e4⟩ => ⟨e1, ⟨t1, t2, t3, u1, u2, u3, e2, h2.keeps e3 (fun b hb hc => h3 b hc hb), fun b hb hc => ?_, fun b hb => ?_, h5, h6.trans (e3.below h4 h7), Nat.le_trans h7 e3.size⟩, CKeep.of h1 e3⟩
  · rcases e4 b hb with q | q
    · exact h3 b q hc
    · have := h2.blocks b hc; omega
  · rcases e4 b hb with q | q
    · exact h4 b q
    · exact Nat.le_trans h7 q
theorem BIn.of_up {y : World} {a : Option Addr} {ss : List Bs} (h : BsUp y a ss) : BIn y a ss :=
  ⟨h.cells, fun i hi => ⟨(h.each i hi).row, (h.each i hi).len⟩, fun i hi => ⟨(h.num i hi).1, (h.num i hi).2, fun r hr => by
    obtain ⟨j, hj, e⟩ := List.getElem_of_mem hr
    have h1 := (h.each i hi).each j hj
    have e2 : (ss.getD i bsz).b.rs.getD j rz = r := by
      rw [List.getD_eq_getElem?_getD, List.getElem?_eq_getElem hj]; exact e
    rw [e2] at h1
    have ht := reach_top
    exact ⟨h1.1, by have := h1.2.1; omega, by have := h1.2.2; omega⟩⟩, h.len⟩
end Go.Proofs.Ytnnljdnaipjoiaa
