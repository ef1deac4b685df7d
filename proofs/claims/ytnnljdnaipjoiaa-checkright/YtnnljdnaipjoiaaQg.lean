/- The document's partition in memory. -/
import Derived.Test.YtnnljdnaipjoiaaQf
import Derived.Test.YtnnljdnaipjoiaaFi
import Derived.ArgAppend
namespace Go.Proofs.Ytnnljdnaipjoiaa
set_option linter.unusedSimpArgs false
set_option linter.unusedVariables false
open Go.RowKit
/-- A segment, where it lies, its batches and where their row lies. -/
structure Sg where
  g : Nat
  base : Int
  a : Option Addr
  c : Nat
  ss : List Bs
def sgz : Sg := ⟨0, 0, none, 0, []⟩
def Sg.v (s : Sg) : Value := .slice s.a s.ss.length s.c
structure BatIs (y : World) (b : Bs) : Prop where
  own : y.ownsRow 0 48 6 (.slice b.a b.b.rs.length b.cap) b.b.rs.length (rcv b.b.rs)
  len : b.b.rs.length ≤ 2
structure SgIs (B : Nat) (y : World) (s : Sg) : Prop where
  hB : B ≤ s.g
  box : y.heap[s.g]? = some (.cells #[.int .i64 s.base, s.v] 96 (0, 0))
  own : y.ownsRow B 61 5 s.v s.ss.length (bcv s.ss)
  bat : ∀ i, i < s.ss.length → BatIs y (s.ss.getD i bsz)
  len : s.ss.length ≤ 100
/-- The last one. -/
def lastS (L : List Sg) : Sg := L.getD (L.length - 1) sgz
structure PIs (B p : Nat) (seg : Int) (r off cap : Nat) (L : List Sg) (y : World) : Prop where
  hp : B ≤ p
  box : y.heap[p]? = some (.cells #[.int .i64 seg, .int .i64 2000, .int .i64 (-1), .bool true, .int .i64 3, .slice (some ⟨r, off, none⟩) L.length cap] 99 (0, 0))
  hr : B ≤ r
  ptr : ∃ cur : Array Value, y.heap[r]? = some (.cells cur 94 (0, 0)) ∧ off + cap ≤ cur.size ∧ ∀ i, i < L.length → cur[off + i]? = some (.pointer (some ⟨(L.getD i sgz).g, 0, none⟩))
  cap1 : L.length ≤ cap
  cap2 : cap ≤ maxLen
  len : L.length ≤ 100
  pos : 0 < L.length
  seg : ∀ i, i < L.length → SgIs B y (L.getD i sgz)
  apart : ∀ i, i + 1 < L.length → (L.getD i sgz).g ≠ (lastS L).g ∧ ∀ x, (lastS L).v.ownBlock = some x → (L.getD i sgz).v.ownBlock ≠ some x
/-- A block of cells of this type. -/
def HasT (y : World) (x : Nat) (t : TypeId) : Prop := ∃ cs, y.heap[x]? = some (.cells cs t (0, 0))
theorem HasT.same {y : World} {x : Nat} {t u : TypeId} (h : HasT y x t) (k : HasT y x u) : t = u := by
  obtain ⟨_, h⟩ := h
  obtain ⟨_, k⟩ := k
  rw [h] at k
  simp only [Option.some.injEq, Obj.cells.injEq] at k
  exact k.2.1
theorem HasT.lt {y : World} {x : Nat} {t : TypeId} (h : HasT y x t) : x < y.heap.size := (Array.getElem?_eq_some_iff.1 h.choose_spec).1
theorem own_hasT {y : World} {B e size n : Nat} {v : Value} {xs : List Value} (h : y.ownsRow B e size v n xs) : ∀ x, v.ownBlock = some x → HasT y x e := by
  intro x hx
  rcases h.2 with ⟨rfl, _⟩ | ⟨g, cap, cur, rfl, _, hg, _⟩
  · cases hx
  · simp only [Value.ownBlock, Option.some.injEq] at hx
    subst hx
    exact ⟨_, hg⟩
theorem own_step' {y z : World} {B e size n : Nat} {v : Value} {xs : List Value} {r : Option Nat} (h : y.ownsRow B e size v n xs) (hg : y.grownBy z r) (hr : ∀ x, r = some x → v.ownBlock ≠ some x) : z.ownsRow B e size v n xs :=
  h.kept hg (by
    cases hv : v.ownBlock with
    | none => exact .inl rfl
    | some g => exact .inr (fun e => by
        have := hr g e.symm
        rw [hv] at this
        exact this rfl))
theorem blk_step {y z : World} {r : Option Nat} {b : Nat} {o : Obj} (h : y.heap[b]? = some o) (hg : y.grownBy z r) (hr : r ≠ some b) : z.heap[b]? = some o :=
  (hg.block b (Array.getElem?_eq_some_iff.1 h).1 (fun e => hr e.symm)).trans h
theorem BatIs.grown {y z : World} {b : Bs} {r : Option Nat} {t : TypeId} (h : BatIs y b) (hg : y.grownBy z r) (hr : ∀ x, r = some x → HasT y x t) (ht : t ≠ 48) : BatIs z b :=
  ⟨own_step' h.own hg fun x hx e => ht ((hr x hx).same (own_hasT h.own x e)), h.len⟩
theorem SgIs.grown {B : Nat} {y z : World} {s : Sg} {r : Option Nat} {t : TypeId} (h : SgIs B y s) (hg : y.grownBy z r) (hr : ∀ x, r = some x → HasT y x t) (ht : t ≠ 48) (h1 : r ≠ some s.g) (h2 : ∀ x, r = some x → s.v.ownBlock ≠ some x) : SgIs B z s :=
  ⟨h.hB, blk_step h.box hg h1, own_step' h.own hg h2, fun i hi => (h.bat i hi).grown hg hr ht, h.len⟩
theorem grown_of_below {y z : World} (hb : Below y.heap.size y z) : y.grownBy z none := ⟨hb.os, hb.tape, hb.output, hb.size, fun k hk _ => hb.block k hk⟩
theorem BatIs.below {y z : World} {b : Bs} (h : BatIs y b) (hb : Below y.heap.size y z) : BatIs z b := h.grown (t := 0) (grown_of_below hb) (fun x e => by cases e) (by decide)
theorem SgIs.below {B : Nat} {y z : World} {s : Sg} (h : SgIs B y s) (hb : Below y.heap.size y z) : SgIs B z s :=
  h.grown (t := 0) (grown_of_below hb) (fun x e => by cases e) (by decide) (by simp) (fun x e => by cases e)
theorem PIs.below {B p : Nat} {seg : Int} {r off cap : Nat} {L : List Sg} {y z : World} (h : PIs B p seg r off cap L y) (hb : Below y.heap.size y z) : PIs B p seg r off cap L z := by
  have hg := grown_of_below hb
  obtain ⟨cur, h1, h2, h3⟩ := h.ptr
  exact ⟨h.hp, blk_step h.box hg (by simp), h.hr, ⟨cur, blk_step h1 hg (by simp), h2, h3⟩, h.cap1, h.cap2, h.len, h.pos, fun i hi => (h.seg i hi).below hb, h.apart⟩
/-- What a Log's call leaves. -/
theorem own_tk' {w w' : World} {B e size n : Nat} {v : Value} {xs : List Value} (h : w.ownsRow B e size v n xs) (ht : TKeep w w') (he : e ≠ 59) : w'.ownsRow B e size v n xs := by
  refine ⟨h.1, ?_⟩
  rcases h.2 with q | ⟨g, cap, cur, e1, hB1, hg, r⟩
  · exact .inl q
  · exact .inr ⟨g, cap, cur, e1, hB1, ht g _ _ hg he, r⟩
theorem SgIs.tk {B : Nat} {y z : World} {s : Sg} (h : SgIs B y s) (k : TKeep y z) : SgIs B z s :=
  ⟨h.hB, k _ _ _ h.box (by decide), own_tk' h.own k (by decide), fun i hi => ⟨own_tk' (h.bat i hi).own k (by decide), (h.bat i hi).len⟩, h.len⟩
theorem PIs.tk {B p : Nat} {seg : Int} {r off cap : Nat} {L : List Sg} {y z : World} (h : PIs B p seg r off cap L y) (k : TKeep y z) : PIs B p seg r off cap L z := by
  obtain ⟨cur, h1, h2, h3⟩ := h.ptr
  exact ⟨h.hp, k _ _ _ h.box (by decide), h.hr, ⟨cur, k _ _ _ h1 (by decide), h2, h3⟩, h.cap1, h.cap2, h.len, h.pos, fun i hi => (h.seg i hi).tk k, h.apart⟩
/-- The blocks that a partition's calls may turn. -/
def partT (t : TypeId) : Prop := t = 99 ∨ t = 94 ∨ t = 96 ∨ t = 61
structure PKeep (B : Nat) (w y : World) : Prop where
  os : y.os = w.os
  tape : y.tape = w.tape
  output : y.output = w.output
  size : w.heap.size ≤ y.heap.size
  blk : ∀ g o, w.heap[g]? = some o → ¬ (B ≤ g ∧ ∃ cs t f, o = .cells cs t f ∧ partT t) → y.heap[g]? = some o
theorem PKeep.refl (B : Nat) (w : World) : PKeep B w w := ⟨rfl, rfl, rfl, Nat.le_refl _, fun _ _ h _ => h⟩
theorem PKeep.trans {B : Nat} {a b c : World} (h : PKeep B a b) (k : PKeep B b c) : PKeep B a c :=
  ⟨k.os.trans h.os, k.tape.trans h.tape, k.output.trans h.output, Nat.le_trans h.size k.size, fun g o hg hm => k.blk g o (h.blk g o hg hm) hm⟩
theorem PKeep.of_below {B : Nat} {w y : World} (h : Below w.heap.size w y) : PKeep B w y :=
  ⟨h.os, h.tape, h.output, h.size, fun g o hg _ => (h.block g (Array.getElem?_eq_some_iff.1 hg).1).trans hg⟩
theorem PKeep.under {B : Nat} {w y : World} (h : PKeep B w y) (hB : B ≤ w.heap.size) : Below B w y :=
  ⟨h.os, h.tape, h.output, h.size, fun k hk => by
    have hlt : k < w.heap.size := by omega
    have hk2 := h.blk k _ (Array.getElem?_eq_getElem hlt) (fun hm => by have := hm.1; omega)
    rw [hk2, Array.getElem?_eq_getElem hlt]⟩
theorem PKeep.step {B : Nat} {w y z : World} {r : Option Nat} {t : TypeId} (h : PKeep B w y) (hg : y.grownBy z r) (hr : ∀ b, r = some b → B ≤ b ∧ HasT y b t) (ht : partT t) : PKeep B w z :=
  ⟨hg.os.trans h.os, hg.tape.trans h.tape, hg.output.trans h.output, Nat.le_trans h.size hg.size, fun g o ho hm => by
    have hy := h.blk g o ho hm
    refine (hg.block g (Array.getElem?_eq_some_iff.1 hy).1 (fun e => ?_)).trans hy
    obtain ⟨h1, cs, h2⟩ := hr g e.symm
    rw [hy] at h2
    injection h2 with h2
    exact hm ⟨h1, cs, t, (0, 0), h2, ht⟩⟩
theorem MapIs.pk {α : Type} {mk : α → Value} {f : α → Option Value} {w z : World} {b n B : Nat} (h : MapIs w b mk f n) (k : PKeep B w z) : MapIs z b mk f n := by
  obtain ⟨es, c, hb, r⟩ := h
  exact ⟨es, c, k.blk b _ hb (fun ⟨_, _, _, _, e, _⟩ => by cases e), r⟩
end Go.Proofs.Ytnnljdnaipjoiaa
