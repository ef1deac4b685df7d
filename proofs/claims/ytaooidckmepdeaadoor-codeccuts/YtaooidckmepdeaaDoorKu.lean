/- The reader: a field into a body. -/
import Derived.Test.YtaooidckmepdeaaDoorKt
import Derived.Test.YtaooidckmepdeaaDoorKg
import Derived.Test.YtaooidckmepdeaaDoorLat
namespace Go.Proofs.YtaooidckmepdeaaDoor
set_option linter.unusedSimpArgs false
set_option linter.unusedVariables false
open Go.RowKit
/-- The body in block X, its rows behind it. -/
structure BdX (w : World) (X : Nat) (b : Bd) (p : Pt) : Prop where
  box : w.heap[X]? = some (.cells (bdc b p) 66 (0, 0))
  rs : RRow w p.ra (b 11).rs
  nm : SRow w p.na (b 17).nm
  ct : IRow w p.ca (b 18).ct
  bs : BRow w p.ba p.bs
  bb : p.bs.map (·.b) = (b 19).bs
  n1 : p.ra = none → p.rc = 0
  o1 : ∀ g, p.ra = some g → X < g.block
  o2 : ∀ g, p.na = some g → X < g.block
  o3 : ∀ g, p.ca = some g → X < g.block
  o4 : ∀ g, p.ba = some g → X < g.block
theorem map_set {α : Type} (n f : Nat) (g : Nat → α) (v : α) (h : f < n) : ((List.range n).map g).set f v = (List.range n).map (fun i => if i = f then v else g i) := by
  apply List.ext_getElem
  · simp
  · intro i h1 h2
    simp only [List.getElem_set, List.getElem_map, List.getElem_range]
    by_cases e : f = i
    · subst e; simp
    · simp [e, Ne.symm e]
theorem bdc_setN (b : Bd) (p : Pt) (f : Nat) (x : Int) (hf : f < 20) (hk : kd f = 0 ∨ kd f = 1) (hb : b f = fz) : bdc (setB b f (vn x)) p = (bdc b p).setIfInBounds f (.int .i64 x) := by
  have h11 : f ≠ 11 ∧ f ≠ 17 ∧ f ≠ 18 := by refine ⟨?_, ?_, ?_⟩ <;> rintro rfl <;> rcases hk with q | q <;> exact absurd q (by decide)
  unfold bdc bdl
  rw [List.setIfInBounds_toArray, List.set_append, if_pos (by simpa using hf), map_set 20 f _ _ hf]
  congr 1
  congr 1
  · apply List.map_congr_left
    intro i _
    by_cases e : i = f
    · subst e; simp [setB, vn]
    · simp [setB, e]
  · congr 1
    · apply List.map_congr_left
      intro i _
      by_cases e : i = f
      · subst e; simp [setB, vn, hb, fz]
      · simp [setB, e]
    · simp [setB, Ne.symm h11.1, Ne.symm h11.2.1, Ne.symm h11.2.2]
theorem bdc_setT (b : Bd) (p : Pt) (f : Nat) (x : ByteArray) (hf : f ≤ 1) (hb : b f = fz) : bdc (setB b f (vt x)) p = (bdc b p).setIfInBounds (20 + f) (.string x) := by
  have h11 : f ≠ 11 ∧ f ≠ 17 ∧ f ≠ 18 := by omega
  unfold bdc bdl
  rw [List.setIfInBounds_toArray, List.set_append, if_neg (by simp)]
  congr 1
  congr 1
  · apply List.map_congr_left
    intro i _
    by_cases e : i = f
    · subst e; simp [setB, vt, hb, fz]
    · simp [setB, e]
  · rw [show 20 + f - (List.map (fun i => Value.int IntKind.i64 (b i).n) (List.range 20)).length = f by simp, List.set_append, if_pos (by simp; omega), map_set 20 f _ _ (by omega)]
    congr 1
    · apply List.map_congr_left
      intro i _
      by_cases e : i = f
      · subst e; simp [setB, vt]
      · simp [setB, e]
    · simp [setB, Ne.symm h11.1, Ne.symm h11.2.1, Ne.symm h11.2.2]
theorem bdc_row (b : Bd) (p p' : Pt) (f : Nat) (v : Fv) (j : Nat) (sv : Value) (hn : v.n = 0) (ht : v.t = ⟨#[]⟩) (hb : b f = fz) (hj : j < 4)
    (h : [Value.slice p'.ra (setB b f v 11).rs.length p'.rc, .slice p'.na (setB b f v 17).nm.length p'.nc, .slice p'.ca (setB b f v 18).ct.length p'.cc, .slice p'.ba p'.bs.length p'.bc] = [Value.slice p.ra (b 11).rs.length p.rc, .slice p.na (b 17).nm.length p.nc, .slice p.ca (b 18).ct.length p.cc, .slice p.ba p.bs.length p.bc].set j sv) : bdc (setB b f v) p' = (bdc b p).setIfInBounds (40 + j) sv := by
  unfold bdc bdl
  rw [List.setIfInBounds_toArray, List.set_append, if_neg (by simp; omega)]
  congr 1
  congr 1
  · apply List.map_congr_left
    intro i _
    by_cases e : i = f
    · subst e; simp [setB, hn, hb, fz]
    · simp [setB, e]
  · rw [List.set_append, if_neg (by simp; omega)]
    congr 1
    · apply List.map_congr_left
      intro i _
      by_cases e : i = f
      · subst e; simp [setB, ht, hb, fz]
      · simp [setB, e]
    · rw [h]
      congr 1
      simp
      omega
/-- No row lies in the body's block, but for those that hold no texts or numbers. -/
theorem rrow_body {w : World} {X : Nat} {b : Bd} {p : Pt} {a : Option Addr} {rs : List Rc} (h : w.heap[X]? = some (.cells (bdc b p) 66 (0, 0))) (hr : RRow w a rs) : ∀ i, i < rs.length → ∀ bb off, a = some ⟨bb, off, none⟩ → bb ≠ X := by
  intro i hi bb off e
  rintro rfl
  obtain ⟨b', off', e', h0, _⟩ := hr i hi
  rw [e] at e'
  simp only [Option.some.injEq, Addr.mk.injEq, and_true] at e'
  obtain ⟨rfl, rfl⟩ := e'
  rw [(box_at h _).1] at h0
  have hm : Value.bool (rs.getD i rz).hk ∈ (bdc b p).toList := by
    rw [← Array.getElem?_toList] at h0
    exact List.mem_of_getElem? h0
  simp [bdc, bdl] at hm
theorem srow_keep {w w' : World} {a : Option Addr} {ss : List ByteArray} (h : SRow w a ss) (hk : ∀ i, i < ss.length → ∀ b off, a = some ⟨b, off, none⟩ → w'.heap[b]? = w.heap[b]?) : SRow w' a ss := by
  intro i hi
  obtain ⟨b, off, e, h0⟩ := h i hi
  exact ⟨b, off, e, (World.cell?_of_block (a := ⟨b, off + i, none⟩) (hk i hi b off e)).trans h0⟩
theorem irow_keep {w w' : World} {a : Option Addr} {ss : List Int} (h : IRow w a ss) (hk : ∀ i, i < ss.length → ∀ b off, a = some ⟨b, off, none⟩ → w'.heap[b]? = w.heap[b]?) : IRow w' a ss := by
  intro i hi
  obtain ⟨b, off, e, h0⟩ := h i hi
  exact ⟨b, off, e, (World.cell?_of_block (a := ⟨b, off + i, none⟩) (hk i hi b off e)).trans h0⟩
theorem bcells_keep {w w' : World} {a : Option Addr} {ss : List Bs} (h : BCells w a ss) (hk : ∀ i, i < ss.length → ∀ b off, a = some ⟨b, off, none⟩ → w'.heap[b]? = w.heap[b]?) : BCells w' a ss := by
  intro i hi
  obtain ⟨b, off, e, h0, h1, h2, h3, h4⟩ := h i hi
  have c : ∀ j, w'.cell? ⟨b, j, none⟩ = w.cell? ⟨b, j, none⟩ := fun j => World.cell?_of_block (a := ⟨b, j, none⟩) (hk i hi b off e)
  exact ⟨b, off, e, (c _).trans h0, (c _).trans h1, (c _).trans h2, (c _).trans h3, (c _).trans h4⟩
theorem SRow.lt {w : World} {a : Option Addr} {ss : List ByteArray} (h : SRow w a ss) {i : Nat} (hi : i < ss.length) {b off : Nat} (e : a = some ⟨b, off, none⟩) : b < w.heap.size := by
  obtain ⟨b', off', e', h0⟩ := h i hi
  rw [e] at e'
  simp only [Option.some.injEq, Addr.mk.injEq, and_true] at e'
  obtain ⟨rfl, rfl⟩ := e'
  exact World.block_lt_of_cell? _ _ h0
theorem IRow.lt {w : World} {a : Option Addr} {ss : List Int} (h : IRow w a ss) {i : Nat} (hi : i < ss.length) {b off : Nat} (e : a = some ⟨b, off, none⟩) : b < w.heap.size := by
  obtain ⟨b', off', e', h0⟩ := h i hi
  rw [e] at e'
  simp only [Option.some.injEq, Addr.mk.injEq, and_true] at e'
  obtain ⟨rfl, rfl⟩ := e'
  exact World.block_lt_of_cell? _ _ h0
theorem BCells.lt {w : World} {a : Option Addr} {ss : List Bs} (h : BCells w a ss) {i : Nat} (hi : i < ss.length) {b off : Nat} (e : a = some ⟨b, off, none⟩) : b < w.heap.size := by
  obtain ⟨b', off', e', h0, _⟩ := h i hi
  rw [e] at e'
  simp only [Option.some.injEq, Addr.mk.injEq, and_true] at e'
  obtain ⟨rfl, rfl⟩ := e'
  exact World.block_lt_of_cell? _ _ h0
theorem BdX.keepB {w0 w w' : World} {st : Ls} {X : Nat} {b : Bd} {p : Pt} (h : BdX w X b p) (hr : RdR w0 w st) (hX : w0.heap.size < X) (k : KeepB w0.heap.size w w') : BdX w' X b p := by
  refine ⟨k.box h.box (by omega), h.rs.keepB hr k, srow_keep h.nm (fun i hi bb off e => k.blk bb ?_ (h.nm.lt hi e)), irow_keep h.ct (fun i hi bb off e => k.blk bb ?_ (h.ct.lt hi e)), ⟨bcells_keep h.bs.1 (fun i hi bb off e => k.blk bb ?_ (h.bs.1.lt hi e)), fun i hi => ⟨(h.bs.2 i hi).1.keepB hr k, (h.bs.2 i hi).2⟩⟩, h.bb, h.n1, h.o1, h.o2, h.o3, h.o4⟩
  · have := h.o2 _ e; simp at this; omega
  · have := h.o3 _ e; simp at this; omega
  · have := h.o4 _ e; simp at this; omega
/-- A store into the body. -/
theorem BdX.rows {w : World} {X : Nat} {b : Bd} {p : Pt} (h : BdX w X b p) (i : Nat) (v : Value) : RRow (w.setCell ⟨X, i, none⟩ v) p.ra (b 11).rs ∧ SRow (w.setCell ⟨X, i, none⟩ v) p.na (b 17).nm ∧ IRow (w.setCell ⟨X, i, none⟩ v) p.ca (b 18).ct ∧ BRow (w.setCell ⟨X, i, none⟩ v) p.ba p.bs := by
  have hs : ∀ k, k ≠ X → (w.setCell ⟨X, i, none⟩ v).heap[k]? = w.heap[k]? := fun k hk => heap_setCell_other w ⟨X, i, none⟩ k v hk
  refine ⟨rrow_keep h.rs (fun j hj bb off e => hs bb (rrow_body h.box h.rs j hj bb off e)), srow_keep h.nm (fun j hj bb off e => hs bb ?_), irow_keep h.ct (fun j hj bb off e => hs bb ?_), ⟨bcells_keep h.bs.1 (fun j hj bb off e => hs bb ?_), fun j hj => ⟨rrow_keep (h.bs.2 j hj).1 (fun j' hj' bb off e => hs bb (rrow_body h.box (h.bs.2 j hj).1 j' hj' bb off e)), (h.bs.2 j hj).2⟩⟩⟩
  · have := h.o2 _ e; simp at this; omega
  · have := h.o3 _ e; simp at this; omega
  · have := h.o4 _ e; simp at this; omega
end Go.Proofs.YtaooidckmepdeaaDoor
