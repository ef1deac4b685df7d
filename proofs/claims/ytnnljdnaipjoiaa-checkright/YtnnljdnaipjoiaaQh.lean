/- The document's partition in memory: what turns in it. -/
import Derived.Test.YtnnljdnaipjoiaaQg
import Derived.Maps.AppendAt
namespace Go.Proofs.Ytnnljdnaipjoiaa
set_option linter.unusedSimpArgs false
set_option linter.unusedVariables false
open Go.RowKit
theorem LogIs.pk {B p : Nat} {w y : World} {v1 v2 v3 : Option Nat} {S : LS} (h : LogIs w p v1 v2 v3 S) (k : PKeep B w y) : LogIs y p v1 v2 v3 S := by
  have hm : ∀ b, IsMap w b → y.heap[b]? = w.heap[b]? := fun b ⟨es, c, hb⟩ => by
    rw [hb]
    exact k.blk b _ hb (fun hm => by
      obtain ⟨_, cs, t, f, e, _⟩ := hm
      cases e)
  refine ⟨k.blk _ _ h.box (fun hm => ?_), h.m1.keep (fun b e => hm b (h.m1.isMap b e)), h.m2.keep (fun b e => hm b (h.m2.isMap b e)), h.m3.keep (fun b e => hm b (h.m3.isMap b e)), h.d12, h.d13, h.d23⟩
  obtain ⟨_, cs, t, f, e, ht⟩ := hm
  injection e with e1 e2
  subst e2
  rcases ht with e | e | e | e <;> simp at e
theorem AwK.pk {B B' : Nat} {w0 y z : World} {p : Nat} {S : LS} (h : AwK B w0 p S y) (k : PKeep B' y z) (hB : B ≤ B') : AwK B w0 p S z := by
  obtain ⟨v1, v2, v3, h1, h2, h3, h4⟩ := h
  refine ⟨v1, v2, v3, h1.pk k, h2, ⟨k.os.trans h3.os, k.tape.trans h3.tape, k.output.trans h3.output, Nat.le_trans h3.size k.size, fun i hi => ?_⟩, Nat.le_trans h4 k.size⟩
  have hlt : i < y.heap.size := by omega
  rw [k.blk i _ (Array.getElem?_eq_getElem hlt) (fun hm => by have := hm.1; omega), ← Array.getElem?_eq_getElem hlt]
  exact h3.block i hi
theorem grown_set (y : World) (x i : Nat) (v : Value) : y.grownBy (y.setCell ⟨x, i, none⟩ v) (some x) :=
  ⟨rfl, rfl, rfl, by simp [World.setCell], fun k _ hk => Below.heap_setCell _ _ _ _ (fun e => hk (by rw [e]))⟩
theorem getD_lt {L : List Sg} {i : Nat} (h : i < L.length) : L.getD i sgz = L[i] := by simp [List.getD, h]
theorem last_of (L : List Sg) (i : Nat) (h : i + 1 = L.length) : L.getD i sgz = lastS L := by unfold lastS; rw [← h]; rfl
theorem tail_get (L : List Sg) (i : Nat) : L.tail.getD i sgz = L.getD (i + 1) sgz := by
  cases L with
  | nil => simp
  | cons x t => rfl
theorem last_tail (L : List Sg) (h : 2 ≤ L.length) : lastS L.tail = lastS L := by
  unfold lastS
  rw [tail_get, List.length_tail, show L.length - 1 - 1 + 1 = L.length - 1 by omega]
/-- The first one goes. -/
theorem PIs.tail {B p : Nat} {seg : Int} {r off cap : Nat} {L : List Sg} {y : World} (h : PIs B p seg r off cap L y) (h2 : 2 ≤ L.length) :
    PIs B p seg r (off + 1) (cap - 1) L.tail (y.setCell ⟨p, 5, none⟩ (.slice (some ⟨r, off + 1, none⟩) (L.length - 1) (cap - 1))) ∧ PKeep B y (y.setCell ⟨p, 5, none⟩ (.slice (some ⟨r, off + 1, none⟩) (L.length - 1) (cap - 1))) := by
  have hg := grown_set y p 5 (.slice (some ⟨r, off + 1, none⟩) (L.length - 1) (cap - 1))
  have hT : ∀ x, some p = some x → HasT y x 99 := fun x e => by injection e with e; subst e; exact ⟨_, h.box⟩
  obtain ⟨cur, q1, q2, q3⟩ := h.ptr
  have hc1 := h.cap1
  have hlen : L.tail.length = L.length - 1 := List.length_tail
  refine ⟨⟨h.hp, ?_, h.hr, ⟨cur, blk_step q1 hg (fun e => ?_), by omega, fun i hi => ?_⟩, by omega, by have := h.cap2; omega, by have := h.len; omega, by omega, fun i hi => ?_, fun i hi => ?_⟩, (PKeep.refl B y).step hg (fun b e => ⟨by injection e with e; subst e; exact h.hp, hT b e⟩) (.inl rfl)⟩
  · rw [setCell_heap h.box, hlen]
    rfl
  · have := (hT r e).same ⟨_, q1⟩
    exact absurd this (by decide)
  · rw [tail_get, Nat.add_assoc, Nat.add_comm 1 i]
    exact q3 (i + 1) (by omega)
  · rw [tail_get]
    have hs := h.seg (i + 1) (by omega)
    refine hs.grown hg hT (by decide) (fun e => ?_) (fun x e e2 => ?_)
    · exact absurd ((hT _ e).same ⟨_, hs.box⟩) (by decide)
    · exact absurd ((hT _ e).same (own_hasT hs.own x e2)) (by decide)
  · rw [last_tail L h2, tail_get]
    exact h.apart (i + 1) (by omega)
theorem set_get (L : List Sg) (i0 i : Nat) (s : Sg) (hi : i0 < L.length) : (L.set i0 s).getD i sgz = if i = i0 then s else L.getD i sgz := by
  simp only [List.getD, List.getElem?_set]
  by_cases e : i0 = i
  · subst e; simp [hi]
  · rw [if_neg e, if_neg (fun c => e c.symm)]
theorem last_set (L : List Sg) (i0 : Nat) (s : Sg) (h : i0 + 1 < L.length) : lastS (L.set i0 s) = lastS L := by
  unfold lastS
  rw [List.length_set, set_get L i0 _ s (by omega), if_neg (by omega)]
/-- One that is not the last is put anew. -/
theorem PIs.put {B p : Nat} {seg : Int} {r off cap : Nat} {L : List Sg} {y : World} (h : PIs B p seg r off cap L y) (i0 : Nat) (hi : i0 + 1 < L.length) (s : Sg) (hs : SgIs B y s)
    (ha : s.g ≠ (lastS L).g ∧ ∀ x, (lastS L).v.ownBlock = some x → s.v.ownBlock ≠ some x) :
    PIs B p seg r off cap (L.set i0 s) (y.setCell ⟨r, off + i0, none⟩ (.pointer (some ⟨s.g, 0, none⟩))) ∧ PKeep B y (y.setCell ⟨r, off + i0, none⟩ (.pointer (some ⟨s.g, 0, none⟩))) := by
  have hg := grown_set y r (off + i0) (.pointer (some ⟨s.g, 0, none⟩))
  obtain ⟨cur, q1, q2, q3⟩ := h.ptr
  have hT : ∀ x, some r = some x → HasT y x 94 := fun x e => by injection e with e; subst e; exact ⟨_, q1⟩
  have hc1 := h.cap1
  have keep : ∀ s, SgIs B y s → SgIs B (y.setCell ⟨r, off + i0, none⟩ (.pointer (some ⟨s.g, 0, none⟩))) s → True := fun _ _ _ => trivial
  have each : ∀ t : Sg, SgIs B y t → SgIs B (y.setCell ⟨r, off + i0, none⟩ (.pointer (some ⟨s.g, 0, none⟩))) t := fun t ht => ht.grown hg hT (by decide)
    (fun e => absurd ((hT _ e).same ⟨_, ht.box⟩) (by decide)) (fun x e e2 => absurd ((hT _ e).same (own_hasT ht.own x e2)) (by decide))
  refine ⟨⟨h.hp, ?_, h.hr, ⟨_, setCell_heap q1 _ _, by simpa using q2, fun i hi2 => ?_⟩, by rw [List.length_set]; exact hc1, h.cap2, by rw [List.length_set]; exact h.len, by rw [List.length_set]; exact h.pos, fun i hi2 => ?_, fun i hi2 => ?_⟩, (PKeep.refl B y).step hg (fun b e => ⟨by injection e with e; subst e; exact h.hr, hT b e⟩) (.inr (.inl rfl))⟩
  · rw [List.length_set]
    exact blk_step h.box hg (fun e => absurd ((hT _ e).same ⟨_, h.box⟩) (by decide))
  · rw [List.length_set] at hi2
    rw [set_get L i0 i s (by omega)]
    by_cases e : i = i0
    · subst e
      rw [if_pos rfl, Array.getElem?_setIfInBounds_self_of_lt (by omega)]
    · rw [if_neg e, Array.getElem?_setIfInBounds_ne (by omega)]
      exact q3 i hi2
  · rw [List.length_set] at hi2
    rw [set_get L i0 i s (by omega)]
    by_cases e : i = i0
    · rw [if_pos e]; exact each s hs
    · rw [if_neg e]; exact each _ (h.seg i hi2)
  · rw [List.length_set] at hi2
    rw [last_set L i0 s hi, set_get L i0 i s (by omega)]
    by_cases e : i = i0
    · rw [if_pos e]; exact ha
    · rw [if_neg e]; exact h.apart i hi2
end Go.Proofs.Ytnnljdnaipjoiaa
