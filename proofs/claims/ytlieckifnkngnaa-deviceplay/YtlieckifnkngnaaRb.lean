/- The document's device, while it is built. -/
import Derived.Test.YtlieckifnkngnaaRf
import Derived.Deep.Onto
namespace Go.Proofs.Ytlieckifnkngnaa
set_option linter.unusedSimpArgs false
set_option linter.unusedVariables false
open Go.RowKit Go.MapKept
structure Raw (B : Nat) (w : World) (q : Nat) (vB vP : Value) (bs ps : List Value) (i j : Nat) (N L : Int) : Prop where
  cells : w.heap[q]? = some (.cells #[vB, vP, .int .i64 N, .int .i64 L] 64 (0, 0))
  bo : w.ownsRow B 39 1 vB i bs
  po : w.ownsRow B 61 1 vP j ps
  hq : B ≤ q
theorem lt_of_blk {w : World} {x : Nat} {o : Obj} (h : w.heap[x]? = some o) : x < w.heap.size := by
  rcases Nat.lt_or_ge x w.heap.size with a | a
  · exact a
  · rw [Array.getElem?_eq_none a] at h; cases h
/-- Behind a build, an append and a store. -/
theorem raw_oth {w w4 : World} {o : Obj} {q off : Nat} {u : Value} {row : Option Nat} (hg4 : (w.alloc o).grownBy w4 row) : ∀ x, x < w.heap.size → x ≠ q → some x ≠ row → (w4.setCell ⟨q, off, none⟩ u).heap[x]? = w.heap[x]? := fun x hx hq hr =>
  (heap_setCell_other w4 ⟨q, off, none⟩ x u hq).trans ((hg4.block x (by rw [size_alloc]; omega) hr).trans (heap_alloc_lt hx))
theorem raw_below {w w4 : World} {o : Obj} {B q off : Nat} {u : Value} {row : Option Nat} (hg4 : (w.alloc o).grownBy w4 row) (hBs : B ≤ w.heap.size) (hq : B ≤ q) (hr : ∀ x, row = some x → B ≤ x) : Below B w (w4.setCell ⟨q, off, none⟩ u) := by
  refine ⟨hg4.os, hg4.tape, hg4.output, ?_, fun k hk => raw_oth hg4 k (by omega) (by omega) (fun e => by have := hr k e.symm; omega)⟩
  have := hg4.size
  rw [size_alloc] at this
  simp [World.setCell]; omega
section
variable {B : Nat} {w w4 w' : World} {q : Nat} {vB vP v : Value} {bs ps : List Value} {i j g cap : Nat} {N L : Int} {o : Obj}
theorem Raw.lt (h : Raw B w q vB vP bs ps i j N L) : q < w.heap.size := lt_of_blk h.cells
theorem Raw.sep (h : Raw B w q vB vP bs ps i j N L) : some q ≠ vB.ownBlock ∧ some q ≠ vP.ownBlock ∧ ∀ x, vB.ownBlock = some x → vP.ownBlock ≠ some x := by
  refine ⟨fun e => ?_, fun e => ?_, fun x e1 e2 => ?_⟩
  · obtain ⟨cur, hc, _⟩ := owns_blk' h.bo e.symm
    exact ne_of_type h.cells hc (by decide) rfl
  · obtain ⟨cur, hc, _⟩ := owns_blk' h.po e.symm
    exact ne_of_type h.cells hc (by decide) rfl
  · obtain ⟨cur, hc, _⟩ := owns_blk' h.bo e1
    obtain ⟨cur2, hc2, _⟩ := owns_blk' h.po e2
    exact ne_of_type hc hc2 (by decide) rfl
theorem Raw.c (h : Raw B w q vB vP bs ps i j N L) : w.cell? ⟨q, 0, none⟩ = some vB ∧ w.cell? ⟨q, 1, none⟩ = some vP ∧ w.cell? ⟨q, 2, none⟩ = some (.int .i64 N) ∧ w.cell? ⟨q, 3, none⟩ = some (.int .i64 L) := by
  refine ⟨?_, ?_, ?_, ?_⟩ <;> rw [cell_of_row _ _ _ _ _ _ h.cells] <;> rfl
theorem Raw.fr (h : Raw B w q vB vP bs ps i j N L) (i : Nat) : w.frozen? ⟨q, i, none⟩ = false := frozen_of_row _ _ _ _ _ h.cells
theorem Raw.blk (h : Raw B w q vB vP bs ps i j N L) (e : ∀ x, x < w.heap.size → w'.heap[x]? = w.heap[x]?) : Raw B w' q vB vP bs ps i j N L :=
  ⟨(e q h.lt).trans h.cells, owns_same' h.bo fun b hb => by obtain ⟨cur, hc, _⟩ := owns_blk' h.bo hb; exact e b (lt_of_blk hc), owns_same' h.po fun b hb => by obtain ⟨cur, hc, _⟩ := owns_blk' h.po hb; exact e b (lt_of_blk hc), h.hq⟩
theorem Raw.below (h : Raw B w q vB vP bs ps i j N L) (hb : Below w.heap.size w w') : Raw B w' q vB vP bs ps i j N L := h.blk fun x hx => hb.block x hx
/-- One base more. -/
theorem Raw.addB (h : Raw B w q vB vP bs ps i j N L) (ho4 : w4.ownsRow B 39 1 (.slice (some ⟨g, 0, none⟩) (i + 1) cap) (i + 1) (bs ++ [v])) (hg4 : (w.alloc o).grownBy w4 vB.ownBlock) (hat : vB.ownBlock = some g ∨ g = w.heap.size + 1) :
    Raw B (w4.setCell ⟨q, 0, none⟩ (.slice (some ⟨g, 0, none⟩) (i + 1) cap)) q (.slice (some ⟨g, 0, none⟩) (i + 1) cap) vP (bs ++ [v]) ps (i + 1) j N L := by
  obtain ⟨s1, s2, s3⟩ := h.sep
  have hlt := h.lt
  have hgq : g ≠ q := fun e => by
    rcases hat with a | a
    · exact s1 (by rw [a, e])
    · omega
  have hc4 : w4.heap[q]? = some (.cells #[vB, vP, .int .i64 N, .int .i64 L] 64 (0, 0)) := ((hg4.block q (by rw [size_alloc]; omega) s1).trans (heap_alloc_lt hlt)).trans h.cells
  refine ⟨?_, ownsRow_setCell_other ho4 (by intro e; exact hgq (Option.some.inj e)) _, owns_same' h.po fun b hb => ?_, h.hq⟩
  · rw [heap_setCell_same _ _ _ _ _ _ hc4]; rfl
  · obtain ⟨cur, hc, _⟩ := owns_blk' h.po hb
    exact raw_oth hg4 b (lt_of_blk hc) (fun e => s2 (by rw [hb, e])) (fun e => s3 b e.symm hb)
/-- One pending row more. -/
theorem Raw.addP (h : Raw B w q vB vP bs ps i j N L) (ho4 : w4.ownsRow B 61 1 (.slice (some ⟨g, 0, none⟩) (j + 1) cap) (j + 1) (ps ++ [v])) (hg4 : (w.alloc o).grownBy w4 vP.ownBlock) (hat : vP.ownBlock = some g ∨ g = w.heap.size + 1) :
    Raw B (w4.setCell ⟨q, 1, none⟩ (.slice (some ⟨g, 0, none⟩) (j + 1) cap)) q vB (.slice (some ⟨g, 0, none⟩) (j + 1) cap) bs (ps ++ [v]) i (j + 1) N L := by
  obtain ⟨s1, s2, s3⟩ := h.sep
  have hlt := h.lt
  have hgq : g ≠ q := fun e => by
    rcases hat with a | a
    · exact s2 (by rw [a, e])
    · omega
  have hc4 : w4.heap[q]? = some (.cells #[vB, vP, .int .i64 N, .int .i64 L] 64 (0, 0)) := ((hg4.block q (by rw [size_alloc]; omega) s2).trans (heap_alloc_lt hlt)).trans h.cells
  refine ⟨?_, owns_same' h.bo fun b hb => ?_, ownsRow_setCell_other ho4 (by intro e; exact hgq (Option.some.inj e)) _, h.hq⟩
  · rw [heap_setCell_same _ _ _ _ _ _ hc4]; rfl
  · obtain ⟨cur, hc, _⟩ := owns_blk' h.bo hb
    exact raw_oth hg4 b (lt_of_blk hc) (fun e => s1 (by rw [hb, e])) (fun e => s3 b hb e.symm)
/-- A device without pending writes is built. -/
theorem Raw.done {n : Nat} {F : Nat → List Nat} {G : List Nat} (h : Raw B w q vB vP bs (List.replicate n (.slice none 0 0)) n n 0 (-1)) (hok : (fresh n F).Ok) (hby : ∀ k, k < n → Byt w G (bs.getD k undef) (F k)) (hG : ∀ x ∈ G, B ≤ x ∧ x < w.heap.size) :
    ∃ gB cB gP cP, RefAt B w q gB cB gP cP bs (List.replicate n (.slice none 0 0)) (fun _ => []) (q :: gB :: gP :: G) (fresh n F) (-1) ∧ vB.ownBlock = some gB ∧ vP.ownBlock = some gP := by
  have hn1 : 1 ≤ n := hok.n1
  rcases owns_shape h.bo with ⟨_, h0⟩ | ⟨gB, cB, rfl, _⟩
  · omega
  rcases owns_shape h.po with ⟨_, h0⟩ | ⟨gP, cP, rfl, _⟩
  · omega
  obtain ⟨c1, hc1, l1⟩ := owns_blk' (b := gB) h.bo rfl
  obtain ⟨c2, hc2, l2⟩ := owns_blk' (b := gP) h.po rfl
  have gs : ∀ k, ((List.replicate n (Value.slice none 0 0)).getD k undef).ownBlock = none := fun k => by
    by_cases hk : k < n
    · simp [List.getD, hk, Value.ownBlock]
    · simp [List.getD, hk, Value.ownBlock, undef]
  refine ⟨gB, cB, gP, cP, ⟨h.cells, h.bo, h.po, fun k hk => ?_, fun k hk => (hby k hk).blk (fun _ _ _ _ _ => rfl) (fun x hx => by simp [hx]), fun k j hk hj => (by simp [fresh] at hj), fun i j hi hj hij b hb => (by rw [gs] at hb; cases hb), fun i hi hb => (by rw [gs] at hb; cases hb), ⟨by simp, by simp, by simp, fun i hi b hb => (by rw [gs] at hb; cases hb)⟩, fun x hx => ?_, hok, by simp [LastOk, fresh]⟩, rfl, rfl⟩
  · have hk' : k < n := hk
    have : (List.replicate n (Value.slice none 0 0)).getD k undef = .slice none 0 0 := by simp [List.getD, hk']
    rw [this]
    exact owns_nil _ _ _
  · simp only [List.mem_cons] at hx
    rcases hx with rfl | rfl | rfl | hx
    · exact ⟨h.hq, h.lt⟩
    · exact ⟨l1, lt_of_blk hc1⟩
    · exact ⟨l2, lt_of_blk hc2⟩
    · exact hG x hx
theorem Raw.mono {B' : Nat} (h : Raw B w q vB vP bs ps i j N L) (hb : B' ≤ B) : Raw B' w q vB vP bs ps i j N L := ⟨h.cells, h.bo.mono hb, h.po.mono hb, by have := h.hq; omega⟩
theorem Raw.both {w7 : World} {g' cap' k : Nat} {o' : Obj} (h : Raw B w q vB vP bs (List.replicate k (.slice none 0 0)) k k 0 (-1)) (hBs : B ≤ w.heap.size)
    (ho4 : w4.ownsRow B 39 1 (.slice (some ⟨g, 0, none⟩) (k + 1) cap) (k + 1) (bs ++ [v])) (hg4 : (w.alloc o).grownBy w4 vB.ownBlock) (hat : vB.ownBlock = some g ∨ g = w.heap.size + 1)
    (ho7 : w7.ownsRow B 61 1 (.slice (some ⟨g', 0, none⟩) (k + 1) cap') (k + 1) (List.replicate k (.slice none 0 0) ++ [.slice none 0 0])) (hg7 : ((w4.setCell ⟨q, 0, none⟩ (.slice (some ⟨g, 0, none⟩) (k + 1) cap)).alloc o').grownBy w7 vP.ownBlock) (hat7 : vP.ownBlock = some g' ∨ g' = (w4.setCell ⟨q, 0, none⟩ (.slice (some ⟨g, 0, none⟩) (k + 1) cap)).heap.size + 1) :
    Raw B (w7.setCell ⟨q, 1, none⟩ (.slice (some ⟨g', 0, none⟩) (k + 1) cap')) q (.slice (some ⟨g, 0, none⟩) (k + 1) cap) (.slice (some ⟨g', 0, none⟩) (k + 1) cap') (bs ++ [v]) (List.replicate (k + 1) (.slice none 0 0)) (k + 1) (k + 1) 0 (-1) ∧
    Below B w (w7.setCell ⟨q, 1, none⟩ (.slice (some ⟨g', 0, none⟩) (k + 1) cap')) ∧
    ∀ (x : Nat) (cs : Array Value) (fr : Nat × Nat), w.heap[x]? = some (.cells cs 5 fr) → (w7.setCell ⟨q, 1, none⟩ (.slice (some ⟨g', 0, none⟩) (k + 1) cap')).heap[x]? = w.heap[x]? := by
  have h1 := h.addB ho4 hg4 hat
  have h2 := h1.addP ho7 hg7 hat7
  have e : List.replicate k (Value.slice none 0 0) ++ [.slice none 0 0] = List.replicate (k + 1) (.slice none 0 0) := (List.replicate_succ' ..).symm
  rw [e] at h2
  have b1 : Below B w (w4.setCell ⟨q, 0, none⟩ (.slice (some ⟨g, 0, none⟩) (k + 1) cap)) := raw_below hg4 hBs h.hq fun x hx => (owns_blk' h.bo hx).elim fun _ y => y.2
  have b2 : Below B (w4.setCell ⟨q, 0, none⟩ (.slice (some ⟨g, 0, none⟩) (k + 1) cap)) (w7.setCell ⟨q, 1, none⟩ (.slice (some ⟨g', 0, none⟩) (k + 1) cap')) := raw_below hg7 (by have := b1.size; omega) h.hq fun x hx => (owns_blk' h.po hx).elim fun _ y => y.2
  refine ⟨h2, b1.trans b2, fun x cs fr hx => ?_⟩
  have e1 : (w4.setCell ⟨q, 0, none⟩ (.slice (some ⟨g, 0, none⟩) (k + 1) cap)).heap[x]? = w.heap[x]? := raw_oth hg4 x (lt_of_blk hx) (ne_of_type hx h.cells (by decide)) fun e => by
    obtain ⟨cur, hc, _⟩ := owns_blk' h.bo e.symm
    exact ne_of_type hx hc (by decide) rfl
  have hx1 := e1.trans hx
  refine (raw_oth hg7 x (lt_of_blk hx1) (ne_of_type hx h.cells (by decide)) fun e => ?_).trans e1
  obtain ⟨cur, hc, _⟩ := owns_blk' h.po e.symm
  exact ne_of_type hx hc (by decide) rfl
theorem Byt.five {G G' : List Nat} {c : List Nat} (h : Byt w G v c) (e : ∀ (x : Nat) (cs : Array Value) (fr : Nat × Nat), w.heap[x]? = some (.cells cs 5 fr) → w'.heap[x]? = w.heap[x]?) (hs : ∀ b ∈ G, b ∈ G') : Byt w' G' v c := h.blk (fun b _ cs fr hc => e b cs fr hc) hs
theorem RefAt.mono {B' gB cB gP cP : Nat} {rs : Nat → List Value} {G : List Nat} {d : Dv} {last : Int} (h : RefAt B w q gB cB gP cP bs ps rs G d last) (hb : B' ≤ B) : RefAt B' w q gB cB gP cP bs ps rs G d last :=
  ⟨h.cells, h.bo.mono hb, h.po.mono hb, fun k hk => (h.ro k hk).mono hb, h.by', h.pby, h.ap, h.nb, h.gin, fun x hx => by have := h.glt x hx; exact ⟨by omega, this.2⟩, h.ok, h.lk⟩
end
end Go.Proofs.Ytlieckifnkngnaa
