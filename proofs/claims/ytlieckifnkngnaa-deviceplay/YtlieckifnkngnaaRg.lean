/- The document's device: one write more, in memory. -/
import Derived.Test.YtlieckifnkngnaaRr
import Derived.Test.YtlieckifnkngnaaLat
import Derived.Laws.OwnMore
import Derived.Deep.AppendLies
namespace Go.Proofs.Ytlieckifnkngnaa
set_option linter.unusedSimpArgs false
set_option linter.unusedVariables false
open Go.RowKit Go.MapKept
section
variable {B : Nat} {w w' : World} {q gB cB gP cP : Nat} {bs ps : List Value} {rs : Nat → List Value} {G : List Nat} {d : Dv} {last : Int}
theorem RefAt.gbne (h : RefAt B w q gB cB gP cP bs ps rs G d last) : (∃ cur, w.heap[gB]? = some (.cells cur 39 (0, 0))) ∧ ∃ cur, w.heap[gP]? = some (.cells cur 61 (0, 0)) := by
  obtain ⟨c1, h1, _⟩ := owns_blk' h.bo rfl
  obtain ⟨c2, h2, _⟩ := owns_blk' h.po rfl
  exact ⟨⟨c1, h1⟩, c2, h2⟩
theorem ne_of_type {w : World} {x y e e' : Nat} {c c' : Array Value} {f f' : Nat × Nat} (hx : w.heap[x]? = some (.cells c e f)) (hy : w.heap[y]? = some (.cells c' e' f')) (he : e ≠ e') : x ≠ y := fun q => by
  rw [q, hy] at hx
  injection hx with t
  injection t with _ t2
  exact he t2.symm
theorem getD_set' {α : Type} (l : List α) (k i : Nat) (v x : α) (hk : k < l.length) : (l.set k v).getD i x = if i = k then v else l.getD i x := by
  by_cases h : i = k
  · subst h; simp [List.getD, hk]
  · simp [List.getD, h, Ne.symm h]
theorem getD_snoc {α : Type} (l : List α) (i : Nat) (v x : α) : (l ++ [v]).getD i x = if i < l.length then l.getD i x else if i = l.length then v else x := by
  by_cases h : i < l.length
  · simp [List.getD, h, List.getElem?_append_left h]
  · by_cases h2 : i = l.length
    · subst h2; simp [List.getD]
    · have : (l ++ [v])[i]? = none := by rw [List.getElem?_eq_none_iff]; simp; omega
      simp [List.getD, this, h, h2]
theorem row_blk {w w' : World} {ad : Addr} {l : List Nat} (h : Row w (some ad) l) (e : w'.heap[ad.block]? = w.heap[ad.block]?) : Row w' (some ad) l := fun i hi => by
  obtain ⟨b, off, ea, hcell, hl⟩ := h i hi
  obtain rfl := Option.some.inj ea
  exact ⟨b, off, rfl, (cell_blk e).trans hcell, hl⟩
theorem RefAt.grow (h : RefAt B w q gB cB gP cP bs ps rs G d last) (k : Nat) (hk : k < d.n) {v' : Value} {c : List Nat} {g cap b : Nat}
    (hsame : ∀ x, x < w.heap.size → x ≠ gP → some x ≠ (ps.getD k undef).ownBlock → w'.heap[x]? = w.heap[x]?)
    (hgp : w'.ownsRow B 61 1 (.slice (some ⟨gP, 0, none⟩) d.n cP) d.n (ps.set k (.slice (some ⟨g, 0, none⟩) ((d.pend k).length + 1) cap)))
    (hin : w'.ownsRow B 39 1 (.slice (some ⟨g, 0, none⟩) ((d.pend k).length + 1) cap) ((d.pend k).length + 1) (rs k ++ [v']))
    (hg : (ps.getD k undef).ownBlock = some g ∨ w.heap.size ≤ g) (hg2 : g < w'.heap.size)
    (hby : Byt w' [b] v' c) (hb : w.heap.size ≤ b) (hb2 : b < w'.heap.size) (hBs : B ≤ w.heap.size) (hz : w.heap.size ≤ w'.heap.size) (hok : (d.add k c).Ok) :
    RefAt B w' q gB cB gP cP bs (ps.set k (.slice (some ⟨g, 0, none⟩) ((d.pend k).length + 1) cap)) (fun x => if x = k then rs k ++ [v'] else rs x) (b :: g :: G) (d.add k c) last := by
  obtain ⟨g1, g2, g3, g4⟩ := h.gin
  obtain ⟨⟨cB', hB'⟩, cP', hP'⟩ := h.gbne
  have hps : ps.length = d.n := by have := h.po.1; omega
  have hrl : (rs k).length = (d.pend k).length := by have := (h.ro k hk).1; omega
  have lt : ∀ x ∈ G, x < w.heap.size := fun x hx => (h.glt x hx).2
  have own : ∀ i, i < d.n → ∀ x, (ps.getD i undef).ownBlock = some x → ∃ cur, w.heap[x]? = some (.cells cur 39 (0, 0)) := fun i hi x hx => by
    obtain ⟨cur, hc, _⟩ := owns_blk' (h.ro i hi) hx
    exact ⟨cur, hc⟩
  have sm : ∀ x ∈ G, ∀ cs e fr, w.heap[x]? = some (.cells cs e fr) → e ≠ 61 → (e = 39 → some x ≠ (ps.getD k undef).ownBlock) → w'.heap[x]? = w.heap[x]? := fun x hx cs e fr hc h61 h39 => by
    refine hsame x (lt x hx) (ne_of_type hc hP' h61) fun hq => ?_
    obtain ⟨cur, hc2⟩ := own k hk x hq.symm
    by_cases he : e = 39
    · exact h39 he hq
    · exact ne_of_type hc hc2 he rfl
  have gs : ∀ i, (ps.set k (.slice (some ⟨g, 0, none⟩) ((d.pend k).length + 1) cap)).getD i undef = if i = k then .slice (some ⟨g, 0, none⟩) ((d.pend k).length + 1) cap else ps.getD i undef := fun i => getD_set' _ _ _ _ _ (by omega)
  have far : ∀ i, i < d.n → i ≠ k → (ps.getD i undef).ownBlock ≠ some g := fun i hi hik hq => by
    rcases hg with hg | hg
    · exact h.ap k i hk hi (Ne.symm hik) g hg hq
    · have := lt g (g4 i hi g hq); omega
  refine ⟨?_, ?_, hgp, ?_, ?_, ?_, ?_, ?_, ?_, ?_, hok, h.lk.congr rfl rfl rfl⟩
  · exact (sm q g1 _ _ _ h.cells (by decide) (fun e => absurd e (by decide))).trans h.cells
  · exact owns_same' h.bo fun x hx => by cases hx; exact sm gB g2 _ _ _ hB' (by decide) fun _ hq => h.nb k hk hq.symm
  · intro i hi
    have hi' : i < d.n := hi
    rw [gs]
    by_cases hik : i = k
    · subst hik
      simp only [if_true, Dv.add, List.length_append, List.length_cons, List.length_nil]
      exact hin
    · simp only [if_neg hik, Dv.add]
      refine owns_same' (h.ro i hi') fun x hx => ?_
      obtain ⟨cur, hc⟩ := own i hi' x hx
      exact sm x (g4 i hi' x hx) _ _ _ hc (by decide) fun _ hq => h.ap i k hi' hk hik x hx hq.symm
  · intro i hi
    exact (h.by' i hi).blk (fun x hx cs fr hc => sm x hx _ _ _ hc (by decide) (fun e => absurd e (by decide))) (fun x hx => by simp [hx])
  · intro i j hi hj
    have hi' : i < d.n := hi
    by_cases hik : i = k
    · subst hik
      simp only [if_true, Dv.add] at hj ⊢
      rw [getD_snoc, getD_snoc, hrl]
      simp only [List.length_append, List.length_cons, List.length_nil] at hj
      by_cases hj2 : j < (d.pend i).length
      · rw [if_pos hj2, if_pos hj2]
        exact (h.pby i j hi' hj2).blk (fun x hx cs fr hc => sm x hx _ _ _ hc (by decide) (fun e => absurd e (by decide))) (fun x hx => by simp [hx])
      · have : j = (d.pend i).length := by omega
        rw [if_neg hj2, if_pos this, if_neg hj2, if_pos this]
        exact hby.blk (fun _ _ _ _ _ => rfl) (by simp)
    · simp only [if_neg hik, Dv.add] at hj ⊢
      exact (h.pby i j hi' hj).blk (fun x hx cs fr hc => sm x hx _ _ _ hc (by decide) (fun e => absurd e (by decide))) (fun x hx => by simp [hx])
  · intro i j hi hj hij x hx hy
    have hi' : i < d.n := hi
    have hj' : j < d.n := hj
    rw [gs] at hx hy
    by_cases hik : i = k
    · rw [if_pos hik] at hx
      have hjk : j ≠ k := by omega
      rw [if_neg hjk] at hy
      cases hx
      exact far j hj' hjk hy
    · rw [if_neg hik] at hx
      by_cases hjk : j = k
      · rw [if_pos hjk] at hy
        cases hy
        exact far i hi' hik hx
      · rw [if_neg hjk] at hy
        exact h.ap i j hi' hj' hij x hx hy
  · intro i hi hx
    have hi' : i < d.n := hi
    rw [gs] at hx
    by_cases hik : i = k
    · rw [if_pos hik] at hx
      have hgg : g = gB := Option.some.inj hx
      rcases hg with hg | hg
      · exact h.nb k hk (hgg ▸ hg)
      · have := lt gB g2; omega
    · rw [if_neg hik] at hx
      exact h.nb i hi' hx
  · refine ⟨by simp [g1], by simp [g2], by simp [g3], fun i hi x hx => ?_⟩
    have hi' : i < d.n := hi
    rw [gs] at hx
    by_cases hik : i = k
    · rw [if_pos hik] at hx
      cases hx
      simp
    · rw [if_neg hik] at hx
      simp [g4 i hi' x hx]
  · intro x hx
    simp only [List.mem_cons] at hx
    rcases hx with rfl | rfl | hx
    · exact ⟨by omega, hb2⟩
    · refine ⟨?_, hg2⟩
      rcases hg with hg | hg
      · exact (h.glt x (g4 k hk x hg)).1
      · omega
    · have := h.glt x hx
      exact ⟨this.1, by omega⟩
theorem heap_alloc_lt {w : World} {o : Obj} {x : Nat} (hx : x < w.heap.size) : (w.alloc o).heap[x]? = w.heap[x]? := by
  show (w.heap.push o)[x]? = _
  simp [Array.getElem?_push, Nat.ne_of_lt hx]
theorem heap_alloc_new (w : World) (o : Obj) : (w.alloc o).heap[w.heap.size]? = some o := by show (w.heap.push o)[_]? = _; simp
theorem size_alloc (w : World) (o : Obj) : (w.alloc o).heap.size = w.heap.size + 1 := by show (w.heap.push o).size = _; simp
theorem RefAt.far (h : RefAt B w q gB cB gP cP bs ps rs G d last) (k : Nat) (hk : k < d.n) : q < w.heap.size ∧ gP < w.heap.size ∧ some q ≠ (ps.getD k undef).ownBlock ∧ some gP ≠ (ps.getD k undef).ownBlock ∧ gB < w.heap.size := by
  obtain ⟨g1, g2, g3, g4⟩ := h.gin
  obtain ⟨⟨cB', hB'⟩, cP', hP'⟩ := h.gbne
  refine ⟨(h.glt _ g1).2, (h.glt _ g3).2, fun e => ?_, fun e => ?_, (h.glt _ g2).2⟩
  · obtain ⟨cur, hc, _⟩ := owns_blk' (h.ro k hk) e.symm
    exact ne_of_type h.cells hc (by decide) rfl
  · obtain ⟨cur, hc, _⟩ := owns_blk' (h.ro k hk) e.symm
    exact ne_of_type hP' hc (by decide) rfl
theorem RefAt.wrote {w2 w4 : World} {o : Obj} (h : RefAt B w q gB cB gP cP bs ps rs G d last) (k : Nat) (hk : k < d.n) {c : List Nat} {g cap b cb : Nat} (hl : c.length = 512) (hb : ∀ i, c.getD i 0 < 256)
    (hg2 : w.grownBy w2 none) (ho2 : w2.ownsRow w.heap.size 5 1 (.slice (some ⟨b, 0, none⟩) 512 cb) 512 (cv c))
    (ho4 : w4.ownsRow B 39 1 (.slice (some ⟨g, 0, none⟩) ((d.pend k).length + 1) cap) ((d.pend k).length + 1) (rs k ++ [.slice (some ⟨b, 0, none⟩) 512 cb]))
    (hg4 : (w2.alloc o).grownBy w4 (ps.getD k undef).ownBlock) (hat : (ps.getD k undef).ownBlock = some g ∨ g = w2.heap.size + 1) (hlt : g < w4.heap.size) (hBs : B ≤ w.heap.size) (hok : (d.add k c).Ok) :
    (∃ ps' rs' G', RefAt B (w4.setCell ⟨gP, k, none⟩ (.slice (some ⟨g, 0, none⟩) ((d.pend k).length + 1) cap)) q gB cB gP cP bs ps' rs' G' (d.add k c) last ∧ ∀ x ∈ G', x ∈ G ∨ w.heap.size ≤ x) ∧ Keeps G w (w4.setCell ⟨gP, k, none⟩ (.slice (some ⟨g, 0, none⟩) ((d.pend k).length + 1) cap)) := by
  obtain ⟨q1, q2, q3, q4, q5⟩ := h.far k hk
  obtain ⟨g1, g2, g3, g4⟩ := h.gin
  obtain ⟨⟨cB', hB'⟩, cP', hP'⟩ := h.gbne
  have s2 := hg2.size
  have s4 := hg4.size
  rw [size_alloc] at s4
  have S4 : ∀ x, x < w2.heap.size → some x ≠ (ps.getD k undef).ownBlock → w4.heap[x]? = w2.heap[x]? := fun x hx hn => (hg4.block x (by rw [size_alloc]; omega) hn).trans (heap_alloc_lt hx)
  have S : ∀ x, x < w.heap.size → some x ≠ (ps.getD k undef).ownBlock → w4.heap[x]? = w.heap[x]? := fun x hx hn => (S4 x (by omega) hn).trans (hg2.block x hx (by simp))
  have ownlt : ∀ x, (ps.getD k undef).ownBlock = some x → x < w.heap.size := fun x hx => (h.glt _ (g4 k hk x hx)).2
  have hgg : (ps.getD k undef).ownBlock = some g ∨ w.heap.size ≤ g := hat.imp id (fun e => by omega)
  have hgP : g ≠ gP := fun e => by
    rcases hat with a | a
    · exact q4 (by rw [a, e])
    · omega
  obtain ⟨cur, hcur, hbge⟩ := owns_blk' (b := b) ho2 rfl
  have hblt : b < w2.heap.size := (ho2.lt b rfl).2
  have hbo : some b ≠ (ps.getD k undef).ownBlock := fun e => by have := ownlt b e.symm; omega
  have hb4 : ∀ u, (w4.setCell ⟨gP, k, none⟩ u).heap[b]? = w2.heap[b]? := fun u => (heap_setCell_other w4 ⟨gP, k, none⟩ b u (by show b ≠ gP; omega)).trans (S4 b hblt hbo)
  have hrow2 : Row w2 (some ⟨b, 0, none⟩) c := by
    have := ho2
    rw [← hl] at this
    obtain ⟨a, cp, e, hr, _⟩ := owns_row this hb
    cases e
    exact hr
  have hb5 : b < (w4.setCell ⟨gP, k, none⟩ (.slice (some ⟨g, 0, none⟩) ((d.pend k).length + 1) cap)).heap.size := by simp [World.setCell]; omega
  refine ⟨⟨_, _, _, h.grow k hk (v' := .slice (some ⟨b, 0, none⟩) 512 cb) (c := c) (g := g) (cap := cap) (b := b) (fun x hx hxp hxo => ?_) ?_ ?_ hgg (by simpa [World.setCell] using hlt) ?_ hbge hb5 hBs (by simp [World.setCell]; omega) hok, fun x hx => ?_⟩, ?_⟩
  · exact (heap_setCell_other w4 ⟨gP, k, none⟩ x _ hxp).trans (S x hx hxo)
  · have := owns_same' (w' := w4) h.po fun x hx => by cases hx; exact S gP q2 q4
    exact (this.stored k _).1
  · exact ownsRow_setCell_other ho4 (by intro e; exact hgP (Option.some.inj e)) _
  · exact ⟨b, cb, cur, _, rfl, by simp, (hb4 _).trans hcur, row_blk hrow2 (hb4 _), hl⟩
  · simp only [List.mem_cons] at hx
    rcases hx with rfl | rfl | hx
    · exact .inr hbge
    · exact hgg.imp (fun e => g4 k hk _ e) id
    · exact .inl hx
  · refine ⟨hg4.os.trans hg2.os, hg4.tape.trans hg2.tape, hg4.output.trans hg2.output, by simp [World.setCell]; omega, fun x hx hn => ?_⟩
    exact (heap_setCell_other w4 ⟨gP, k, none⟩ x _ (fun e => hn (by rw [e]; exact g3))).trans (S x hx fun e => hn (g4 k hk x e.symm))
end
end Go.Proofs.Ytlieckifnkngnaa
