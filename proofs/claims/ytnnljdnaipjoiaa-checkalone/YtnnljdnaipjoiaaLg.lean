/- A Log in memory; batches that are handed in. -/
import Derived.Test.YtnnljdnaipjoiaaCp
namespace Go.Proofs.Ytnnljdnaipjoiaa
set_option linter.unusedSimpArgs false
set_option linter.unusedVariables false
open Go.RowKit Go.MapKept
theorem cell_nomap {w : World} {b o : Nat} {v : Value} (h : w.cell? ⟨b, o, none⟩ = some v) {es : Array MapEntry} {c : Nat} (hm : w.heap[b]? = some (.map es c)) : False := by
  simp [World.cell?, hm] at h
/-- A map's block. -/
def IsMap (w : World) (b : Nat) : Prop := ∃ es c, w.heap[b]? = some (.map es c)
theorem MapIs.isMap {α : Type} {mk : α → Value} {f : α → Option Value} {w : World} {b n : Nat} (h : MapIs w b mk f n) : IsMap w b := by
  obtain ⟨es, c, hb, _⟩ := h
  exact ⟨es, c, hb⟩
theorem cell_kept {w w' : World} {g o : Nat} {v : Value} (h : w.cell? ⟨g, o, none⟩ = some v) {r : Option Nat} (hg : w.grownBy w' r) (hm : ∀ b, r = some b → IsMap w b) : w'.cell? ⟨g, o, none⟩ = some v := by
  have hlt := World.block_lt_of_cell? _ _ h
  rw [World.cell?_of_block (a := ⟨g, o, none⟩) (hg.block g hlt (fun e => by
    obtain ⟨es, c, hb⟩ := hm g e.symm
    exact cell_nomap h hb))]
  exact h
/-- Batches in memory. -/
structure BIn (w : World) (a : Option Addr) (ss : List Bs) : Prop where
  cells : BCells w a ss
  recs : ∀ i, i < ss.length → RRow w (ss.getD i bsz).a (ss.getD i bsz).b.rs ∧ (ss.getD i bsz).b.rs.length ≤ maxLen
  ok : ∀ i, i < ss.length → BOk (ss.getD i bsz).b
  len : ss.length ≤ maxLen
theorem BCells.kept {w w' : World} {a : Option Addr} {ss : List Bs} (h : BCells w a ss) {r : Option Nat} (hg : w.grownBy w' r) (hm : ∀ b, r = some b → IsMap w b) : BCells w' a ss := by
  intro i hi
  obtain ⟨b, off, e, h0, h1, h2, h3, h4⟩ := h i hi
  exact ⟨b, off, e, cell_kept h0 hg hm, cell_kept h1 hg hm, cell_kept h2 hg hm, cell_kept h3 hg hm, cell_kept h4 hg hm⟩
theorem RRow.kept {w w' : World} {a : Option Addr} {rs : List Rc} (h : RRow w a rs) {r : Option Nat} (hg : w.grownBy w' r) (hm : ∀ b, r = some b → IsMap w b) : RRow w' a rs := by
  intro i hi
  obtain ⟨b, off, e, h0, h1, h2, h3, h4, h5⟩ := h i hi
  exact ⟨b, off, e, cell_kept h0 hg hm, cell_kept h1 hg hm, cell_kept h2 hg hm, cell_kept h3 hg hm, cell_kept h4 hg hm, cell_kept h5 hg hm⟩
theorem BIn.kept {w w' : World} {a : Option Addr} {ss : List Bs} (h : BIn w a ss) {r : Option Nat} (hg : w.grownBy w' r) (hm : ∀ b, r = some b → IsMap w b) : BIn w' a ss :=
  ⟨h.cells.kept hg hm, fun i hi => ⟨(h.recs i hi).1.kept hg hm, (h.recs i hi).2⟩, h.ok, h.len⟩
theorem BIn.below {w w' : World} {a : Option Addr} {ss : List Bs} (h : BIn w a ss) (hb : Below w.heap.size w w') : BIn w' a ss := h.kept (grown_below hb none) (fun b e => by cases e)
def bsOf (ss : List Bs) : List Ba := ss.map (·.b)
theorem bsOf_get (ss : List Bs) (i : Nat) (h : i < ss.length) : (bsOf ss).getD i baz = (ss.getD i bsz).b := by simp [bsOf, List.getD, h]
theorem bsOf_len (ss : List Bs) : (bsOf ss).length = ss.length := by simp [bsOf]
/-- A Log at p, its maps at v1, v2, v3. -/
structure LogIs (w : World) (p : Nat) (v1 v2 v3 : Option Nat) (S : LS) : Prop where
  box : w.heap[p]? = some (.cells #[.map v1, .map v2, .map v3] 59 (0, 0))
  m1 : MOpt w v1 mkP (fun x => (S.bn x).map vB)
  m2 : MOpt w v2 mkS (fun x => (S.rc x).map vR)
  m3 : MOpt w v3 mkT (fun x => (S.bs x).map vI)
  d12 : ∀ b, v1 = some b → v2 ≠ some b
  d13 : ∀ b, v1 = some b → v3 ≠ some b
  d23 : ∀ b, v2 = some b → v3 ≠ some b
theorem LogIs.below {w w' : World} {p : Nat} {v1 v2 v3 : Option Nat} {S : LS} (h : LogIs w p v1 v2 v3 S) (hb : Below w.heap.size w w') : LogIs w' p v1 v2 v3 S :=
  ⟨(hb.block _ (Array.getElem?_eq_some_iff.1 h.box).1).trans h.box, h.m1.below hb, h.m2.below hb, h.m3.below hb, h.d12, h.d13, h.d23⟩
theorem LogIs.lt {w : World} {p : Nat} {v1 v2 v3 : Option Nat} {S : LS} (h : LogIs w p v1 v2 v3 S) : p < w.heap.size := (Array.getElem?_eq_some_iff.1 h.box).1
theorem LogIs.cells {w : World} {p : Nat} {v1 v2 v3 : Option Nat} {S : LS} (h : LogIs w p v1 v2 v3 S) : w.cell? ⟨p, 0, none⟩ = some (.map v1) ∧ w.cell? ⟨p, 1, none⟩ = some (.map v2) ∧ w.cell? ⟨p, 2, none⟩ = some (.map v3) ∧ ∀ i, w.frozen? ⟨p, i, none⟩ = false :=
  ⟨cell_of_row _ _ 0 _ _ _ h.box, cell_of_row _ _ 1 _ _ _ h.box, cell_of_row _ _ 2 _ _ _ h.box, fun i => frozen_cells h.box⟩
/-- Behind newRecords, newBases. -/
def NrS (w : World) (K : SK → Option Rc) (l : List (SK × Rc)) (e : Ending) (w' : World) : Prop := Below w.heap.size w w' ∧
  ((∃ bf F, agrs sameR K l (fun _ => none) = some F ∧ e = .returned (.tuple #[.map (some bf), .bool true]) ∧ MS w' bf F ∧ w.heap.size ≤ bf) ∨ (agrs sameR K l (fun _ => none) = none ∧ e = .returned (.tuple #[.map none, .bool false])))
def NrT (w : World) (K : TK → Option Int) (l : List (TK × Int)) (e : Ending) (w' : World) : Prop := Below w.heap.size w w' ∧
  ((∃ bf F, agrs sameI K l (fun _ => none) = some F ∧ e = .returned (.tuple #[.map (some bf), .bool true]) ∧ MT w' bf F ∧ w.heap.size ≤ bf) ∨ (agrs sameI K l (fun _ => none) = none ∧ e = .returned (.tuple #[.map none, .bool false])))
theorem agrs_stop {κ ν : Type} [DecidableEq κ] (e : ν → ν → Bool) (K : κ → Option ν) (a b : List (κ × ν)) (f : κ → Option ν) (h : agrs e K a f = none) : agrs e K (a ++ b) f = none := by rw [agrs_app, h]; rfl
theorem take_flat {α β : Type} (g : α → List β) (l : List α) (k : Nat) : ∃ r, (l.map g).flatten = ((l.take k).map g).flatten ++ r := ⟨((l.drop k).map g).flatten, by rw [← List.flatten_append, ← List.map_append, List.take_append_drop]⟩
theorem recKs_rest (p : PK) (bs : List Ba) (k : Nat) : ∃ r, recKs p bs = recKs p (bs.take k) ++ r := take_flat _ _ _
theorem batKs_rest (p : PK) (bs : List Ba) (k : Nat) : ∃ r, batKs p bs = batKs p (bs.take k) ++ r := take_flat _ _ _
theorem recJ_rest (p : PK) (b : Ba) (j : Nat) : ∃ r, recK p b = recJ p b j ++ r := ⟨(recK p b).drop j, (List.take_append_drop j _).symm⟩
end Go.Proofs.Ytnnljdnaipjoiaa
