/- run: steps of a call; behind a failure it ends for ever. -/
import Derived.Test.YtohncckmennfbaaDoorJv
namespace Go.Proofs.YtohncckmennfbaaDoor
set_option linter.unusedSimpArgs false
set_option linter.unusedVariables false
open Go.RowKit Go.MapKept Go.Proofs
theorem off_store {B : Nat} {E : List Nat} {w1 w : World} {j dp : Nat} {d : Dv} {T : List (List Nat)} {off : Bool} (hF : Fr B E w1 w) (hJ : JP B E w j dp d T off) (b : Bool) :
    Fr B E w1 (w.setCell ⟨j, 3, none⟩ (.bool b)) ∧ JP B E (w.setCell ⟨j, 3, none⟩ (.bool b)) j dp d T b := by
  obtain ⟨FP, ⟨F, lb, rfl, hd, hj, h1, h2⟩, hFP⟩ := hJ
  have k : Keeps [j] w (w.setCell ⟨j, 3, none⟩ (.bool b)) := (Keeps.refl _ _).setCell _ _ (by simp)
  refine ⟨hF.keeps k (fun x hx => by simp at hx; subst hx; exact hFP _ (by simp)), _, ⟨F, lb, rfl, hd.keeps k (fun x hx q => by simp at q; exact h1 (q ▸ hx)), ⟨?_, ?_, hj.four⟩, h1, h2⟩, hFP⟩
  · rw [heap_setCell_same w j 3 (jcells dp lb T off) 79 (.bool b) hj.cells]
    simp [jcells]
  · obtain ⟨m, hm⟩ := hj.live
    exact ⟨m, hm.blk (k.block _ hm.lt (by simpa using hj.ne.symm))⟩
/-- What a call of a journal leaves: OK and t; or ErrOff, off, and whatever a crash leaves s or t. -/
def JAns (B : Nat) (E : List Nat) (w1 : World) (j dp : Nat) (d : Dv) (M : Nat) (T' : List (List Nat)) (s t : Nat → List Nat) : Ending → World → Prop :=
  Ans (fun w' => Fr B E w1 w' ∧ ∃ d', JP B E w' j dp d' T' false ∧ Rest d' T' t ∧ Next d d' M) (fun w' => Fr B E w1 w' ∧ ∃ d' T', JP B E w' j dp d' T' true ∧ Safe d' s t ∧ Next d d' M ∧ d'.cut = true)
theorem run_any {B : Nat} {E : List Nat} {w1 w w4 : World} {j dp : Nat} {d : Dv} {T T' : List (List Nat)} {s t : Nat → List Nat} {vs : List Value} {v3 : Value} {M : Nat} (hF : Fr B E w1 w) (hJ : JP B E w j dp d T false) (hb : Below w.heap.size w w4) (hown : w4.ownsRow w.heap.size 111 1 v3 vs.length vs) (hvs : 0 < vs.length) (hlen : vs.length ≤ 1000000)
    (Ex : List Nat) (hEx : ∀ x ∈ Ex, w.heap.size ≤ x ∧ x < w4.heap.size) (hR : Rest d T s)
    (hC : ∀ E4, (∀ x ∈ E, x ∈ E4) → (∀ x ∈ Ex, x ∈ E4) → Chain (Fr B E4 w4) (BadJ B E4 w4 j dp d M s t) vs (fun w => ∃ d', JP B E4 w j dp d' T false ∧ Rest d' T s ∧ Next d d' 0) (fun w => ∃ d', JP B E4 w j dp d' T' false ∧ Rest d' T' t ∧ Next d d' M)) :
    Calls Tryd.prog 53 #[.pointer (some ⟨j, 0, none⟩), v3] w4 (JAns B E w1 j dp d M T' s t) := by
  rcases hown.2 with ⟨rfl, h0⟩ | ⟨rb, cap, cur, rfl, hB, hg, hle, hm, hcs, ht⟩
  · omega
  have hcell : ∀ i v, vs[i]? = some v → w4.cell? ⟨rb, i, none⟩ = some v := fun i v hv => by
    have hi : i < vs.length := (List.getElem?_eq_some_iff.1 hv).1
    rw [hown.cellAt i (by omega)]; exact hv
  have hrbl : rb < w4.heap.size := (Array.getElem?_eq_some_iff.1 hg).1
  have hEw := hF.ltw
  have hBw : B ≤ w.heap.size := Nat.le_trans hF.big hF.size
  have hF4 : Fr B (rb :: (Ex ++ E)) w4 w4 := Fr.start (fun x hx => by
    simp only [List.mem_cons, List.mem_append] at hx
    rcases hx with rfl | hx | hx
    · exact hrbl
    · exact (hEx x hx).2
    · have := hEw x hx; have := hb.size; omega) (Nat.le_trans hBw hb.size) hF.pos (hF.below hb).tab
  have hJ4 : JP B (rb :: (Ex ++ E)) w4 j dp d T false := (hJ.ext (fun x hx => by
    simp only [List.mem_cons, List.mem_append] at hx
    rcases hx with rfl | hx | hx
    · exact .inr hB
    · exact .inr (hEx x hx).1
    · exact .inl hx)).below hb
  have hin := inTurn_any _ _ vs _ _ rb cap (fun w' h i v hv => by
    rw [h.box (by simp)]
    exact hcell i v hv) hlen (hC (rb :: (Ex ++ E)) (fun x hx => by simp [hx]) (fun x hx => by simp [hx])) w4 hF4 ⟨d, hJ4, hR, Next.refl _ _⟩
  have HI : Hid _ := hin
  clear hin hC
  go_enter Tryd.func53, Tryd.ntmps53
  go_wp2_with fail
  refine Calls.mono HI.out ?_
  rintro e w5 ⟨c, rfl, hc⟩
  rcases hc with ⟨rfl, g1, d', g2, g3, g4⟩ | ⟨rfl, g1, d', T'', g2, g3, g4, g5⟩
  · have hFr : Fr B E w1 w5 := (hF.below hb).trans g1 (fun x hx => by simp [hx])
    have hj5 : JP B E w5 j dp d' T' false := g2.ext (fun x hx => .inl (by simp [hx]))
    obtain ⟨k1, k2⟩ := off_store hFr hj5 false
    obtain ⟨FP3, ⟨F3, lb3, rfl, hd3, hj3, _⟩, _⟩ := id hj5
    obtain ⟨q0, q1, q2, q3⟩ := hj3.c
    have qf := frozen_of_row w5 j 3 _ 79 hj3.cells
    clear hd3 hj3 g1 g2 hFr hj5
    go_wp2
    go_ret
    exact ⟨0, rfl, .inl ⟨rfl, k1, d', k2, g3, g4⟩⟩
  · have hFr : Fr B E w1 w5 := (hF.below hb).trans g1 (fun x hx => by simp [hx])
    have hj5 : JP B E w5 j dp d' T'' false := g2.ext (fun x hx => .inl (by simp [hx]))
    obtain ⟨k1, k2⟩ := off_store hFr hj5 true
    obtain ⟨FP3, ⟨F3, lb3, rfl, hd3, hj3, _⟩, _⟩ := id hj5
    obtain ⟨q0, q1, q2, q3⟩ := hj3.c
    have qf := frozen_of_row w5 j 3 _ 79 hj3.cells
    clear hd3 hj3 g1 g2 hFr hj5
    go_wp2
    go_ret
    exact ⟨9, rfl, .inr ⟨rfl, k1, d', T'', k2, g3, g4, g5⟩⟩
theorem settled_chain {B : Nat} {E : List Nat} {w w4 : World} {j dp jb : Nat} {d : Dv} {T : List (List Nat)} {s t : Nat → List Nat} {l : List (Nat × Nat)} {M : Nat} (hjb : Box w4 jb (.pointer (some ⟨j, 0, none⟩)) 49) (hl : ∀ p ∈ l, w.heap.size ≤ p.1 ∧ Box w4 p.1 (.int .i64 (p.2 : Int)) 3 ∧ ∃ q, p.2 ∈ T.getD q []) (hall : ∀ k, (∃ q, k ∈ T.getD q []) → k ∈ l.map Prod.snd) (hM : d.ops + M ≤ 1000000) (hlM : l.length + 3 ≤ M)
    (hE : ∀ x ∈ jb :: l.map Prod.fst, x ∈ E) :
    Chain (Fr B E w4) (BadJ B E w4 j dp d M s t) ((l.map fun p => f57 jb p.1) ++ [.func (.func 39) #[.pointer (some ⟨dp, 0, none⟩)] #[], .func (.func 75) #[] #[.pointer (some ⟨jb, 0, none⟩)]])
      (fun w => ∃ d', JP B E w j dp d' T false ∧ Rest d' T s ∧ Next d d' 0) (fun w => ∃ d', JP B E w j dp d' [] false ∧ Rest d' [] s ∧ Next d d' (l.length + 3)) := by
  have := settle_chain (B := B) (E := E) (w2 := w4) (j := j) (dp := dp) (jb := jb) (d0 := d) (T := T) (s := s) (t := t) (M := M) (m := 0) (hE jb (by simp)) hjb.cell hM l (fun p hp => ⟨hE p.1 (by simp; exact .inr ⟨p.2, hp⟩), (hl p hp).2.1.cell, (hl p hp).2.2⟩) hall (by omega)
  rw [Nat.zero_add] at this
  exact this
theorem Chain.post {Fr Bad : World → Prop} {vs : List Value} {P Q R : World → Prop} (h : Chain Fr Bad vs P Q) (k : ∀ w, Fr w → Q w → R w) : Chain Fr Bad vs P R := by
  have := h.append (.nil k)
  simpa using this
end Go.Proofs.YtohncckmennfbaaDoor
