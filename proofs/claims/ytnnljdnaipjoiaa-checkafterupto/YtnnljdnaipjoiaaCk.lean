/- The document's Check in memory: a box of three rows of the call's own; what its calls leave. -/
import Derived.Test.YtnnljdnaipjoiaaAk
import Derived.Test.YtnnljdnaipjoiaaFi
namespace Go.Proofs.Ytnnljdnaipjoiaa
set_option linter.unusedSimpArgs false
set_option linter.unusedVariables false
open Go.RowKit
def mineT (t : TypeId) : Prop := t = 32 ∨ t = 88 ∨ t = 91 ∨ t = 93
/-- The blocks that the document's Check may turn. -/
def Mine (B g : Nat) (o : Obj) : Prop := B ≤ g ∧ ∃ cs t f, o = .cells cs t f ∧ mineT t
structure MKeep (B : Nat) (w y : World) : Prop where
  os : y.os = w.os
  tape : y.tape = w.tape
  output : y.output = w.output
  size : w.heap.size ≤ y.heap.size
  blk : ∀ g o, w.heap[g]? = some o → ¬ Mine B g o → y.heap[g]? = some o
theorem MKeep.refl (B : Nat) (w : World) : MKeep B w w := ⟨rfl, rfl, rfl, Nat.le_refl _, fun _ _ h _ => h⟩
theorem MKeep.trans {B : Nat} {a b c : World} (h : MKeep B a b) (k : MKeep B b c) : MKeep B a c :=
  ⟨k.os.trans h.os, k.tape.trans h.tape, k.output.trans h.output, Nat.le_trans h.size k.size, fun g o hg hm => k.blk g o (h.blk g o hg hm) hm⟩
theorem MKeep.of_below {B : Nat} {w y : World} (h : Below w.heap.size w y) : MKeep B w y :=
  ⟨h.os, h.tape, h.output, h.size, fun g o hg _ => (h.block g (Array.getElem?_eq_some_iff.1 hg).1).trans hg⟩
theorem MKeep.under {B : Nat} {w y : World} (h : MKeep B w y) (hB : B ≤ w.heap.size) : Below B w y :=
  ⟨h.os, h.tape, h.output, h.size, fun k hk => by
    have hlt : k < w.heap.size := by omega
    have hk2 := h.blk k _ (Array.getElem?_eq_getElem hlt) (fun hm => by have := hm.1; omega)
    rw [hk2, Array.getElem?_eq_getElem hlt]⟩
theorem MKeep.drewN {B : Nat} {w y : World} (h : MKeep B w y) (n : Nat) : MKeep B w (y.drewN n) := ⟨h.os, h.tape, h.output, h.size, h.blk⟩
theorem MKeep.step {B : Nat} {w y z : World} {r : Option Nat} (h : MKeep B w y) (hg : y.grownBy z r) (hr : ∀ b, r = some b → B ≤ b ∧ ∃ cs t f, y.heap[b]? = some (.cells cs t f) ∧ mineT t) : MKeep B w z :=
  ⟨hg.os.trans h.os, hg.tape.trans h.tape, hg.output.trans h.output, Nat.le_trans h.size hg.size, fun g o ho hm => by
    have hy := h.blk g o ho hm
    refine (hg.block g (Array.getElem?_eq_some_iff.1 hy).1 (fun e => ?_)).trans hy
    obtain ⟨h1, cs, t, f, h2, h3⟩ := hr g e.symm
    rw [hy] at h2
    injection h2 with h2
    exact hm ⟨h1, cs, t, f, h2, h3⟩⟩
theorem own_mine {w : World} {B : Nat} {T : TypeId} {s n : Nat} {v : Value} {xs : List Value} (h : w.ownsRow B T s v n xs) (hT : mineT T) : ∀ b, v.ownBlock = some b → B ≤ b ∧ ∃ cs t f, w.heap[b]? = some (.cells cs t f) ∧ mineT t := by
  intro b e
  rcases h.2 with ⟨rfl, _⟩ | ⟨g, cap, cur, rfl, hB, hg, _⟩
  · cases e
  · simp only [Value.ownBlock, Option.map_some, Option.some.injEq] at e
    subst e
    exact ⟨hB, _, T, _, hg, hT⟩
/-- Rows of unlike structs lie apart. -/
theorem own_apart {w : World} {B B' : Nat} {T T' : TypeId} {s s' n n' : Nat} {v v' : Value} {xs xs' : List Value} (h : w.ownsRow B T s v n xs) (h' : w.ownsRow B' T' s' v' n' xs') (hT : T ≠ T') : v.ownBlock = none ∨ v.ownBlock ≠ v'.ownBlock := by
  rcases h.2 with ⟨rfl, _⟩ | ⟨g, cap, cur, rfl, hB, hg, _⟩
  · exact .inl rfl
  · refine .inr fun e => ?_
    rcases h'.2 with ⟨rfl, _⟩ | ⟨g', cap', cur', rfl, hB', hg', _⟩
    · cases e
    · simp only [Value.ownBlock, Option.map_some, Option.some.injEq] at e
      subst e
      rw [hg] at hg'
      simp only [Option.some.injEq, Obj.cells.injEq] at hg'
      exact hT hg'.2.1
theorem own_box {w : World} {B p : Nat} {T : TypeId} {s n : Nat} {v : Value} {xs : List Value} {cs : Array Value} {t : TypeId} (h : w.ownsRow B T s v n xs) (hp : w.heap[p]? = some (.cells cs t (0, 0))) (hT : T ≠ t) : v.ownBlock ≠ some p := by
  rcases h.2 with ⟨rfl, _⟩ | ⟨g, cap, cur, rfl, hB, hg, _⟩
  · intro e; cases e
  · intro e
    simp only [Value.ownBlock, Option.map_some, Option.some.injEq] at e
    subst e
    rw [hg] at hp
    simp only [Option.some.injEq, Obj.cells.injEq] at hp
    exact hT hp.2.1
theorem own_below {w w' : World} {B T s n : Nat} {v : Value} {xs : List Value} (h : w.ownsRow B T s v n xs) (hb : Below w.heap.size w w') : w'.ownsRow B T s v n xs :=
  h.kept (row := none) ⟨hb.os, hb.tape, hb.output, hb.size, fun k hk _ => hb.block k hk⟩ (by cases h : v.ownBlock <;> simp)
/-- A Check at p: what it knows, by lists. -/
structure Chk (B : Nat) (w : World) (p : Nat) (vF vS vP : Value) (FL : List (SK × Rc)) (SL : List (TK × Int)) (PL : List (PK × (Int × Int))) (S : LS) : Prop where
  box : w.heap[p]? = some (.cells #[vF, vS, vP] 32 (0, 0))
  hp : B ≤ p
  oF : w.ownsRow B 91 9 vF FL.length (rowv cF FL)
  oS : w.ownsRow B 93 5 vS SL.length (rowv cS SL)
  oP : w.ownsRow B 88 4 vP PL.length (rowv cP PL)
  dF : Dist FL
  dS : Dist SL
  dP : Dist PL
  fF : ∀ x, asF FL x = S.rc x
  fS : ∀ x, asF SL x = S.bs x
  fP : ∀ x, asF PL x = S.bn x
section
variable {B p : Nat} {w y z : World} {vF vS vP : Value} {FL : List (SK × Rc)} {SL : List (TK × Int)} {PL : List (PK × (Int × Int))} {S : LS}
theorem Chk.lt (h : Chk B w p vF vS vP FL SL PL S) : p < w.heap.size := (Array.getElem?_eq_some_iff.1 h.box).1
theorem Chk.below (h : Chk B w p vF vS vP FL SL PL S) (hb : Below w.heap.size w y) : Chk B y p vF vS vP FL SL PL S :=
  ⟨(hb.block _ h.lt).trans h.box, h.hp, own_below h.oF hb, own_below h.oS hb, own_below h.oP hb, h.dF, h.dS, h.dP, h.fF, h.fS, h.fP⟩
theorem Chk.cells (h : Chk B w p vF vS vP FL SL PL S) : w.cell? ⟨p, 0, none⟩ = some vF ∧ w.cell? ⟨p, 1, none⟩ = some vS ∧ w.cell? ⟨p, 2, none⟩ = some vP ∧ ∀ i, w.frozen? ⟨p, i, none⟩ = false :=
  ⟨cell_of_row _ _ 0 _ _ _ h.box, cell_of_row _ _ 1 _ _ _ h.box, cell_of_row _ _ 2 _ _ _ h.box, fun i => frozen_cells h.box⟩
/-- A row of facts has grown. -/
theorem Chk.appF (h : Chk B w p vF vS vP FL SL PL S) {v v' : Value} {n : Nat} {xs new : List Value} (hown : w.ownsRow B 91 9 v n xs) (hn : FL.length ≤ n) (ha : ApK 9 B 91 w v n xs new v' y) : Chk B y p vF vS vP FL SL PL S :=
  ⟨(ha.2.1.block p h.lt (fun e => own_box hown h.box (by decide) e.symm)).trans h.box, h.hp, ha.2.2 _ _ _ hn h.oF, h.oS.kept ha.2.1 (own_apart h.oS hown (by decide)), h.oP.kept ha.2.1 (own_apart h.oP hown (by decide)), h.dF, h.dS, h.dP, h.fF, h.fS, h.fP⟩
theorem Chk.appS (h : Chk B w p vF vS vP FL SL PL S) {v v' : Value} {n : Nat} {xs new : List Value} (hown : w.ownsRow B 93 5 v n xs) (hn : SL.length ≤ n) (ha : ApK 5 B 93 w v n xs new v' y) : Chk B y p vF vS vP FL SL PL S :=
  ⟨(ha.2.1.block p h.lt (fun e => own_box hown h.box (by decide) e.symm)).trans h.box, h.hp, h.oF.kept ha.2.1 (own_apart h.oF hown (by decide)), ha.2.2 _ _ _ hn h.oS, h.oP.kept ha.2.1 (own_apart h.oP hown (by decide)), h.dF, h.dS, h.dP, h.fF, h.fS, h.fP⟩
end
/-- A Check at p that knows S, with at most N of each. -/
def CkS (B p N : Nat) (S : LS) (w : World) : Prop := ∃ vF vS vP FL SL PL, Chk B w p vF vS vP FL SL PL S ∧ FL.length ≤ N ∧ SL.length ≤ N ∧ PL.length ≤ N
theorem CkS.below {B p N : Nat} {S : LS} {w y : World} (h : CkS B p N S w) (hb : Below w.heap.size w y) : CkS B p N S y := by
  obtain ⟨vF, vS, vP, FL, SL, PL, h, r⟩ := h
  exact ⟨vF, vS, vP, FL, SL, PL, h.below hb, r⟩
theorem CkS.mono {B p N M : Nat} {S : LS} {w : World} (h : CkS B p N S w) (hn : N ≤ M) : CkS B p M S w := by
  obtain ⟨vF, vS, vP, FL, SL, PL, h, r1, r2, r3⟩ := h
  exact ⟨vF, vS, vP, FL, SL, PL, h, Nat.le_trans r1 hn, Nat.le_trans r2 hn, Nat.le_trans r3 hn⟩
theorem own_tk' {w w' : World} {B T s n : Nat} {v : Value} {xs : List Value} (h : w.ownsRow B T s v n xs) (hT : T ≠ 59) (ht : TKeep w w') : w'.ownsRow B T s v n xs := by
  refine ⟨h.1, ?_⟩
  rcases h.2 with q | ⟨g, cap, cur, e1, hB1, hg, r⟩
  · exact .inl q
  · exact .inr ⟨g, cap, cur, e1, hB1, ht g _ _ hg hT, r⟩
/-- The program's Saw leaves it. -/
theorem CkS.tk {B p N : Nat} {S : LS} {w y : World} (h : CkS B p N S w) (ht : TKeep w y) : CkS B p N S y := by
  obtain ⟨vF, vS, vP, FL, SL, PL, h, r⟩ := h
  exact ⟨vF, vS, vP, FL, SL, PL, ⟨ht _ _ _ h.box (by decide), h.hp, own_tk' h.oF (by decide) ht, own_tk' h.oS (by decide) ht, own_tk' h.oP (by decide) ht, h.dF, h.dS, h.dP, h.fF, h.fS, h.fP⟩, r⟩
theorem CkS.zero {B : Nat} {w : World} (hB : B ≤ w.heap.size) : CkS B w.heap.size 0 ls0 (w.alloc (.cells #[.slice none 0 0, .slice none 0 0, .slice none 0 0] 32)) :=
  ⟨_, _, _, [], [], [], ⟨heap_alloc_new w _, hB, World.ownsRow_nil _ _ _ _, World.ownsRow_nil _ _ _ _, World.ownsRow_nil _ _ _ _, dist_nil, dist_nil, dist_nil, fun _ => rfl, fun _ => rfl, fun _ => rfl⟩, by simp, by simp, by simp⟩
/-- The doc's Saw leaves the program's Log. -/
theorem LogIs.mkeep {B p : Nat} {w y : World} {v1 v2 v3 : Option Nat} {S : LS} (h : LogIs w p v1 v2 v3 S) (k : MKeep B w y) : LogIs y p v1 v2 v3 S := by
  have hm : ∀ b, IsMap w b → y.heap[b]? = w.heap[b]? := fun b ⟨es, c, hb⟩ => by
    rw [hb]
    exact k.blk b _ hb (fun hm => by
      obtain ⟨_, cs, t, f, e, _⟩ := hm
      cases e)
  refine ⟨k.blk _ _ h.box (fun hm => ?_), h.m1.keep (fun b e => hm b (h.m1.isMap b e)), h.m2.keep (fun b e => hm b (h.m2.isMap b e)), h.m3.keep (fun b e => hm b (h.m3.isMap b e)), h.d12, h.d13, h.d23⟩
  obtain ⟨_, cs, t, f, e, ht⟩ := hm
  injection e with e1 e2
  subst e2
  rcases ht with e | e | e | e <;> simp at e
theorem AwK.mkeep {B B' : Nat} {w0 y z : World} {p : Nat} {S : LS} (h : AwK B w0 p S y) (k : MKeep B' y z) (hB : B ≤ B') : AwK B w0 p S z := by
  obtain ⟨v1, v2, v3, h1, h2, h3, h4⟩ := h
  refine ⟨v1, v2, v3, h1.mkeep k, h2, ⟨k.os.trans h3.os, k.tape.trans h3.tape, k.output.trans h3.output, Nat.le_trans h3.size k.size, fun i hi => ?_⟩, Nat.le_trans h4 k.size⟩
  have hlt : i < y.heap.size := by omega
  rw [k.blk i _ (Array.getElem?_eq_getElem hlt) (fun hm => by have := hm.1; omega), ← Array.getElem?_eq_getElem hlt]
  exact h3.block i hi
end Go.Proofs.Ytnnljdnaipjoiaa
