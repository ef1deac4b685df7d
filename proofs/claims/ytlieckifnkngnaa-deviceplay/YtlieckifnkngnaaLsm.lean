/- DeviceLasts: what the law itself lays down, and the plain side. -/
import Derived.Test.YtlieckifnkngnaaSew
import Derived.Deep.AppendLies
namespace Go.Proofs.Ytlieckifnkngnaa
set_option linter.unusedSimpArgs false
set_option linter.unusedVariables false
open Go.RowKit Go.MapKept
/-- An array of twelve rows of ints, each its own. -/
structure May (B : Nat) (Z : List Nat) (w : World) (gm : Nat) (vs : List Value) (M : Nat → List Int) : Prop where
  arr : w.heap[gm]? = some (.cells vs.toArray 51 (0, 0))
  len : vs.length = 12
  row : ∀ k, k < 12 → w.ownsRow B 3 1 (vs.getD k undef) (M k).length ((M k).map (Value.int .i64))
  apart : ∀ i j, i < 12 → j < 12 → i ≠ j → ∀ b, (vs.getD i undef).ownBlock = some b → (vs.getD j undef).ownBlock ≠ some b
  far : ∀ k, k < 12 → ∀ b, (vs.getD k undef).ownBlock = some b → b ∉ Z
def mayG (vs : List Value) : List Nat := vs.filterMap Value.ownBlock
theorem mem_mayG {vs : List Value} {x : Nat} : x ∈ mayG vs ↔ ∃ k, k < vs.length ∧ (vs.getD k undef).ownBlock = some x := by
  unfold mayG
  rw [List.mem_filterMap]
  constructor
  · rintro ⟨v, hv, e⟩
    obtain ⟨i, hi, rfl⟩ := List.getElem_of_mem hv
    exact ⟨i, hi, by simpa [List.getD, hi] using e⟩
  · rintro ⟨k, hk, e⟩
    exact ⟨vs[k], List.getElem_mem hk, by simpa [List.getD, hk] using e⟩
theorem owns_same {B : Nat} {w w' : World} {v : Value} {n : Nat} {xs : List Value} (h : w.ownsRow B 3 1 v n xs) (e : ∀ b, v.ownBlock = some b → w'.heap[b]? = w.heap[b]?) : w'.ownsRow B 3 1 v n xs := by
  refine ⟨h.1, ?_⟩
  rcases h.2 with q | ⟨g, cap, cur, rfl, hb, hg, r⟩
  · exact .inl q
  · exact .inr ⟨g, cap, cur, rfl, hb, (e g rfl).trans hg, r⟩
theorem owns_blk {B : Nat} {w : World} {v : Value} {n : Nat} {xs : List Value} (h : w.ownsRow B 3 1 v n xs) {b : Nat} (e : v.ownBlock = some b) : ∃ cur, w.heap[b]? = some (.cells cur 3 (0, 0)) ∧ B ≤ b := by
  rcases h.2 with ⟨rfl, _⟩ | ⟨g, cap, cur, rfl, hb, hg, r⟩
  · cases e
  · cases e; exact ⟨cur, hg, hb⟩
theorem May.blk {B : Nat} {Z : List Nat} {w w' : World} {gm : Nat} {vs : List Value} {M : Nat → List Int} (h : May B Z w gm vs M) (e : ∀ x ∈ gm :: mayG vs, w'.heap[x]? = w.heap[x]?) : May B Z w' gm vs M :=
  ⟨(e gm (by simp)).trans h.arr, h.len, fun k hk => owns_same (h.row k hk) fun b hb => e b (List.mem_cons.2 (.inr (mem_mayG.2 ⟨k, by rw [h.len]; exact hk, hb⟩))), h.apart, h.far⟩
theorem May.lt {B : Nat} {Z : List Nat} {w : World} {gm : Nat} {vs : List Value} {M : Nat → List Int} (h : May B Z w gm vs M) : ∀ x ∈ gm :: mayG vs, x < w.heap.size := by
  intro x hx
  rcases List.mem_cons.1 hx with rfl | q
  · exact (Array.getElem?_eq_some_iff.1 h.arr).1
  · obtain ⟨k, hk, e⟩ := mem_mayG.1 q
    obtain ⟨cur, hc, _⟩ := owns_blk (h.row k (by rw [h.len] at hk; exact hk)) e
    exact (Array.getElem?_eq_some_iff.1 hc).1
theorem May.below {B : Nat} {Z : List Nat} {w w' : World} {gm : Nat} {vs : List Value} {M : Nat → List Int} (h : May B Z w gm vs M) (hb : Below w.heap.size w w') : May B Z w' gm vs M := h.blk fun x hx => hb.block x (h.lt x hx)
theorem May.cell {B : Nat} {Z : List Nat} {w : World} {gm : Nat} {vs : List Value} {M : Nat → List Int} (h : May B Z w gm vs M) (k : Nat) (hk : k < 12) : w.cell? ⟨gm, k, none⟩ = some (vs.getD k undef) := by
  rw [cell_of_row _ _ _ _ _ _ h.arr]
  simp [List.getD, show k < vs.length by rw [h.len]; exact hk]
/-- What a slice of one's own looks like. -/
theorem owns_form {B : Nat} {w : World} {v : Value} {n : Nat} {l : List Int} (h : w.ownsRow B 3 1 v n (l.map (Value.int .i64))) (hn : n = l.length) (hb : ∀ z ∈ l, -9223372036854775808 ≤ z ∧ z ≤ 9223372036854775807) : ∃ a cap, v = .slice a l.length cap ∧ RowI w a l := by
  subst hn
  rcases h.2 with ⟨rfl, h0⟩ | ⟨g, cap, cur, rfl, hB, hg, _, _, _, _⟩
  · refine ⟨none, 0, by rw [h0], ?_⟩
    intro i hi; omega
  · refine ⟨_, cap, rfl, fun i hi => ⟨g, 0, rfl, ?_⟩⟩
    have e : (l.map (Value.int .i64))[i]? = some (.int .i64 (l.getD i 0)) := by simp [List.getD, hi]
    have := h.cells (g := g) rfl i _ e
    have hk := hb (l.getD i 0) (by simp [List.getD, hi])
    exact ⟨by simpa [Addr.add_lit] using this, hk⟩
theorem getD_setV (L : List Value) (i k : Nat) (v : Value) (hi : i < L.length) : (L.set i v).getD k undef = if k = i then v else L.getD k undef := by
  simp only [List.getD, List.getElem?_set]
  by_cases e : i = k
  · subst e; simp [hi]
  · simp [e, Ne.symm e]
/-- Behind an append to one of the rows and its store. -/
theorem May.append {B : Nat} {Z : List Nat} {w w1 w2 : World} {gm g cap k : Nat} {vs : List Value} {M : Nat → List Int} {v : Value} {z : Int} (h : May B Z w gm vs M) (hk : k < 12) (hv : vs.getD k undef = v) (hb1 : Below w.heap.size w w1) (hZ : ∀ x ∈ Z, x < w.heap.size)
    (hown : w2.ownsRow B 3 1 (.slice (some ⟨g, 0, none⟩) ((M k).length + 1) cap) ((M k).length + 1) ((M k).map (Value.int .i64) ++ [.int .i64 z])) (hg : w1.grownBy w2 v.ownBlock) (hat : v.ownBlock = some g ∨ g = w1.heap.size) :
    May B Z (w2.setCell ⟨gm, k, none⟩ (.slice (some ⟨g, 0, none⟩) ((M k).length + 1) cap)) gm (vs.set k (.slice (some ⟨g, 0, none⟩) ((M k).length + 1) cap)) (fun x => if x = k then M k ++ [z] else M x) ∧
      Keeps (gm :: mayG vs) w (w2.setCell ⟨gm, k, none⟩ (.slice (some ⟨g, 0, none⟩) ((M k).length + 1) cap)) ∧
      (∀ x ∈ mayG (vs.set k (.slice (some ⟨g, 0, none⟩) ((M k).length + 1) cap)), x ∈ mayG vs ∨ w.heap.size ≤ x) := by
  have hkl : k < vs.length := by rw [h.len]; exact hk
  have hs1 := hb1.size
  -- old blocks other than v's
  have keep : ∀ x, x < w.heap.size → v.ownBlock ≠ some x → w2.heap[x]? = w.heap[x]? := fun x hx hn => (hg.block x (by omega) (Ne.symm hn)).trans (hb1.block x hx)
  have hgm : v.ownBlock ≠ some gm := fun e => by
    rw [← hv] at e
    obtain ⟨cur, hc, _⟩ := owns_blk (h.row k hk) e
    rw [h.arr] at hc
    injection hc with t
    injection t with _ t2
    exact absurd t2 (by decide)
  have hgml := h.lt gm (by simp)
  have hggm : g ≠ gm := fun e => by
    rcases hat with q | q
    · exact hgm (by rw [q, e])
    · omega
  have gnew : ∀ x, x < 12 → x ≠ k → (vs.getD x undef).ownBlock ≠ some g := fun x hx hxk e => by
    rcases hat with q | q
    · exact h.apart x k hx hk hxk g e (by rw [hv]; exact q)
    · have := h.lt g (List.mem_cons.2 (.inr (mem_mayG.2 ⟨x, by rw [h.len]; exact hx, e⟩)))
      omega
  refine ⟨⟨?_, by simp [h.len], fun x hx => ?_, fun i j hi hj hij b hb => ?_, fun x hx b hb => ?_⟩, ?_, ?_⟩
  · rw [heap_setCell_same _ _ _ _ _ _ ((keep gm hgml hgm).trans h.arr)]
    simp
  · rw [getD_setV _ _ _ _ hkl]
    by_cases e : x = k
    · subst e
      simp only [if_true]
      have e1 : (M x ++ [z]).length = (M x).length + 1 := by simp
      have e2 : (M x ++ [z]).map (Value.int .i64) = (M x).map (Value.int .i64) ++ [.int .i64 z] := by simp
      rw [e1, e2]
      exact owns_same hown fun b hb => heap_setCell_other _ _ _ _ (by cases hb; exact hggm)
    · rw [if_neg e]
      simp only [if_neg e]
      refine owns_same (h.row x hx) fun b hb => ?_
      have hbm : b ∈ gm :: mayG vs := List.mem_cons.2 (.inr (mem_mayG.2 ⟨x, by rw [h.len]; exact hx, hb⟩))
      have hbl := h.lt b hbm
      have hbg : b ≠ gm := fun q => by
        obtain ⟨cur, hc, _⟩ := owns_blk (h.row x hx) hb
        rw [q, h.arr] at hc
        injection hc with t
        injection t with _ t2
        exact absurd t2 (by decide)
      rw [heap_setCell_other _ _ _ _ hbg]
      exact keep b hbl (fun q => h.apart x k hx hk e b hb (by rw [hv]; exact q))
  · rw [getD_setV _ _ _ _ hkl] at hb ⊢
    by_cases ei : i = k
    · rw [if_pos ei] at hb
      cases hb
      have ej : j ≠ k := fun q => hij (by rw [ei, q])
      rw [if_neg ej]
      exact gnew j hj ej
    · rw [if_neg ei] at hb
      by_cases ej : j = k
      · rw [if_pos ej]
        intro q
        cases q
        exact gnew i hi ei hb
      · rw [if_neg ej]
        exact h.apart i j hi hj hij b hb
  · rw [getD_setV _ _ _ _ hkl] at hb
    by_cases e : x = k
    · rw [if_pos e] at hb
      cases hb
      intro q
      rcases hat with a | a
      · exact h.far k hk g (by rw [hv]; exact a) q
      · have := hZ g q; omega
    · rw [if_neg e] at hb
      exact h.far x hx b hb
  · refine Keeps.setCell (w' := w2) ⟨hg.os.trans hb1.os, hg.tape.trans hb1.tape, hg.output.trans hb1.output, by have := hg.size; omega, fun x hx hn => keep x hx (fun q => hn ?_)⟩ _ _ (.inl (by simp))
    exact List.mem_cons.2 (.inr (mem_mayG.2 ⟨k, hkl, by rw [hv]; exact q⟩))
  · intro x hx
    obtain ⟨i, hi, e⟩ := mem_mayG.1 hx
    rw [getD_setV _ _ _ _ hkl] at e
    by_cases ek : i = k
    · rw [if_pos ek] at e
      cases e
      rcases hat with a | a
      · exact .inl (mem_mayG.2 ⟨k, hkl, by rw [hv]; exact a⟩)
      · exact .inr (by show w.heap.size ≤ g; omega)
    · rw [if_neg ek] at e
      exact .inl (mem_mayG.2 ⟨i, by simpa using hi, e⟩)
theorem may51 (B : Nat) (Z : List Nat) (w : World) : May B Z (w.alloc (.cells #[.slice none 0 0, .slice none 0 0, .slice none 0 0, .slice none 0 0, .slice none 0 0, .slice none 0 0, .slice none 0 0, .slice none 0 0, .slice none 0 0, .slice none 0 0, .slice none 0 0, .slice none 0 0] 51)) w.heap.size (List.replicate 12 (.slice none 0 0)) (fun _ => []) := by
  have e : ∀ k, k < 12 → (List.replicate 12 (Value.slice none 0 0)).getD k undef = .slice none 0 0 := fun k hk => by
    rw [List.getD, List.getElem?_replicate, if_pos hk]
    rfl
  refine ⟨heap_alloc_new w _, by simp, fun k hk => ?_, fun i j hi hj _ b hb => ?_, fun k hk b hb => ?_⟩
  · rw [e k hk]; exact ⟨by simp, .inl ⟨rfl, rfl⟩⟩
  · rw [e i hi] at hb; cases hb
  · rw [e k hk] at hb; cases hb
/-- The new footprint of the rows beside the devices. -/
theorem Fam.re {B : Nat} {w w' : World} {G H : List Nat} {l : List (Nat × Dv)} (h : Fam B w G l) (hs : ∀ x ∈ H, x ∈ G ∨ w.heap.size ≤ x) (k : Keeps G w w') : Fam B w' H l := by
  have h1 : Fam B w (H ++ G) l := h.mono fun x hx => by
    rcases List.mem_append.1 hx with q | q
    · exact hs x q
    · exact .inl q
  have h2 : Fam B w' (H ++ G) l := h1.keeps (k.mono fun x hx => .inl (List.mem_append.2 (.inr hx)))
  exact h2.mono fun x hx => .inl (List.mem_append.2 (.inl hx))
/-- The device behind the flush: what was flushed, and what is pending. -/
structure La (d : Dv) (s : Nat) (L : List Int) (M : Nat → List Int) : Prop where
  pl : Pl 12 d s
  len : L.length = 12
  base : ∀ k, k < 12 → d.base k = bb (L.getD k 0)
  pend : ∀ k, k < 12 → d.pend k = (M k).map bb
theorem La.start {d : Dv} {j : Nat} {L : List Int} (h : Good 12 d j L) : La d.flushed (j + 1) L (fun _ => []) := by
  have hp : Pl 12 d j := ⟨h.n, h.cut, h.ops⟩
  refine ⟨hp.flush, h.len, fun k hk => ?_, fun k hk => ?_⟩
  · rw [hp.flushed_is]; exact h.cur k hk
  · rw [hp.flushed_is]; rfl
theorem La.step {d : Dv} {s : Nat} {L : List Int} {M : Nat → List Int} (h : La d s L M) (k : Nat) (hk : k < 12) (z : Int) : La (d.tick.add k (bb z)) (s + 1) L (fun x => if x = k then M k ++ [z] else M x) := by
  refine ⟨h.pl.add _ _, h.len, h.base, fun x hx => ?_⟩
  show (if x = k then d.pend k ++ [bb z] else d.pend x) = _
  by_cases e : x = k
  · subst e; simp [h.pend x hx]
  · simp [e, h.pend x hx]
/-- What a crash leaves of a block: what was flushed, or one of its writes. -/
theorem La.crash {d : Dv} {s : Nat} {L : List Int} {M : Nat → List Int} (h : La d s L M) (l : List Int) (k : Nat) (hk : k < 12) :
    ∃ t, t ≤ (M k).length ∧ (t = 0 → (d.crash l).cur k = bb (L.getD k 0)) ∧ ∀ i, t = i + 1 → (d.crash l).cur k = bb ((M k).getD i 0) := by
  rw [cur_crash]
  have hp : (d.pend k).length = (M k).length := by rw [h.pend k hk]; simp
  refine ⟨if d.pend k = [] then 0 else pickOf l (d.rank k) (d.pend k).length, ?_, fun ht => ?_, fun i ht => ?_⟩
  · split
    · omega
    · have := pickOf_le l (d.rank k) (d.pend k).length; omega
  · unfold Dv.crashBase
    rw [ht]
    simp [Dv.at, h.base k hk]
  · unfold Dv.crashBase
    rw [ht]
    have hil : i < (M k).length := by
      have : i + 1 ≤ (d.pend k).length := by
        rw [← ht]
        split
        · omega
        · exact pickOf_le _ _ _
      omega
    simp [Dv.at, h.pend k hk, List.getD, hil]
end Go.Proofs.Ytlieckifnkngnaa
