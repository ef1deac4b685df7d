/- A Feeder in memory, the bytes that it is fed, rows of frames. -/
import Derived.Test.YthbomgjjdmogpaaFm
import Derived.Test.YthbomgjjdmogpaaApp
import Derived.Test.YthbomgjjdmogpaaAlk
namespace Go.Proofs.Ythbomgjjdmogpaa
set_option linter.unusedSimpArgs false
set_option linter.unusedVariables false
open Go.RowKit
/-- What was there stays, but for these blocks. -/
structure Keeps (F : List Nat) (w w' : World) : Prop where
  os : w'.os = w.os
  tape : w'.tape = w.tape
  output : w'.output = w.output
  size : w.heap.size ≤ w'.heap.size
  block : ∀ k, k < w.heap.size → k ∉ F → w'.heap[k]? = w.heap[k]?
theorem Keeps.refl (F : List Nat) (w : World) : Keeps F w w := ⟨rfl, rfl, rfl, Nat.le_refl _, fun _ _ _ => rfl⟩
theorem Keeps.mono {F G : List Nat} {w w' : World} (h : Keeps F w w') (hs : ∀ x ∈ F, x ∈ G ∨ w.heap.size ≤ x) : Keeps G w w' :=
  ⟨h.os, h.tape, h.output, h.size, fun k hk hn => h.block k hk (fun hf => by rcases hs k hf with a | a; exact hn a; omega)⟩
theorem Keeps.trans {F G : List Nat} {w w1 w2 : World} (h : Keeps F w w1) (k : Keeps G w1 w2) (hs : ∀ x ∈ G, x ∈ F ∨ w.heap.size ≤ x) : Keeps F w w2 :=
  ⟨k.os.trans h.os, k.tape.trans h.tape, k.output.trans h.output, Nat.le_trans h.size k.size, fun x hx hn =>
    (k.block x (Nat.lt_of_lt_of_le hx h.size) (fun hg => by rcases hs x hg with a | a; exact hn a; omega)).trans (h.block x hx hn)⟩
theorem Keeps.of_below {w w' : World} (h : Below w.heap.size w w') (F : List Nat) : Keeps F w w' := ⟨h.os, h.tape, h.output, h.size, fun k hk _ => h.block k hk⟩
theorem Keeps.below {F : List Nat} {w w' : World} (h : Keeps F w w') {B : Nat} (hB : ∀ x ∈ F, B ≤ x) (hs : B ≤ w.heap.size) : Below B w w' :=
  ⟨h.os, h.tape, h.output, h.size, fun k hk => h.block k (by omega) (fun hf => by have := hB k hf; omega)⟩
theorem Keeps.alloc {F : List Nat} {w w' : World} (h : Keeps F w w') (o : Obj) : Keeps F w (w'.alloc o) :=
  h.trans (Keeps.of_below ((Below.refl _ _).alloc (Nat.le_refl _) o) []) (by simp)
theorem Keeps.drew {F : List Nat} {w w' : World} (h : Keeps F w w') : Keeps F w w'.drew := ⟨h.os, h.tape, h.output, h.size, h.block⟩
theorem Keeps.drewN {F : List Nat} {w w' : World} (h : Keeps F w w') (n : Nat) : Keeps F w (w'.drewN n) := ⟨h.os, h.tape, h.output, h.size, h.block⟩
theorem Keeps.setCell {F : List Nat} {w w' : World} (h : Keeps F w w') (a : Addr) (v : Value) (ha : a.block ∈ F ∨ w.heap.size ≤ a.block) : Keeps F w (w'.setCell a v) :=
  ⟨h.os, h.tape, h.output, by simpa [World.setCell] using h.size, fun k hk hn => (heap_setCell_other w' a k v (fun e => by rcases ha with q | q; exact hn (e ▸ q); omega)).trans (h.block k hk hn)⟩
theorem Keeps.setRow {F : List Nat} {w w' : World} (h : Keeps F w w') (g : Nat) (cs : Array Value) (ha : g ∈ F ∨ w.heap.size ≤ g) : Keeps F w (w'.setRow g cs) :=
  ⟨h.os, h.tape, h.output, by simpa using h.size, fun k hk hn => (setRow_other w' g k cs (fun e => by rcases ha with q | q; exact hn (e ▸ q); omega)).trans (h.block k hk hn)⟩
theorem Keeps.grown {F : List Nat} {w w' w2 : World} {row : Option Nat} (h : Keeps F w w') (g : w'.grownBy w2 row) (hr : ∀ x, row = some x → x ∈ F ∨ w.heap.size ≤ x) : Keeps F w w2 :=
  ⟨g.os.trans h.os, g.tape.trans h.tape, g.output.trans h.output, Nat.le_trans h.size g.size, fun k hk hn => (g.block k (Nat.lt_of_lt_of_le hk h.size) (fun e => by rcases hr k e.symm with a | a; exact hn a; omega)).trans (h.block k hk hn)⟩
theorem Keeps.owns {F : List Nat} {w w' : World} {B : Nat} {e : TypeId} {s : Nat} {v : Value} {n : Nat} {xs : List Value} (k : Keeps F w w') (h : w.ownsRow B e s v n xs) (hn : ∀ x, v.ownBlock = some x → x ∉ F) : w'.ownsRow B e s v n xs := by
  refine ⟨h.1, ?_⟩
  rcases h.2 with hn | ⟨g, cap, cur, rfl, hb, hgg, rest⟩
  · exact .inl hn
  · refine .inr ⟨g, cap, cur, rfl, hb, ?_, rest⟩
    rw [k.block g (Array.getElem?_eq_some_iff.1 hgg).1 (hn g rfl)]
    exact hgg
/-- Bytes that are handed in, apart from these blocks. -/
structure InE (w : World) (E : List Nat) (a : Option Addr) (cap : Nat) (l : List Nat) : Prop where
  row : Row w a l
  le : l.length ≤ cap
  max : cap ≤ maxLen
  nil : a = none → cap = 0
  off : 0 < l.length → ∀ x, a = some x → x.block ∉ E
theorem InE.cut {w : World} {E : List Nat} {a : Option Addr} {cap : Nat} {l : List Nat} (h : InE w E a cap l) (n : Nat) : InE w E (cutA a cap n) (cap - n) (l.drop n) := by
  refine ⟨row_cut cap n h.row h.le, by have := h.le; rw [List.length_drop]; omega, by have := h.max; omega, fun e => ?_, fun h0 x hx => ?_⟩
  · cases a with
    | none => have := h.nil rfl; omega
    | some y =>
      unfold cutA at e
      split at e
      · cases e
      · cases e
  · have h0 : 0 < l.length := by rw [List.length_drop] at h0; omega
    unfold cutA at hx
    split at hx
    · exact h.off h0 x hx
    · cases a with
      | none => cases hx
      | some y =>
        simp only [Option.map_some, Option.some.injEq] at hx
        subst hx
        have := h.off h0 y rfl
        unfold Addr.add
        split <;> exact this
theorem InE.keeps {w w' : World} {E F : List Nat} {a : Option Addr} {cap : Nat} {l : List Nat} (h : InE w E a cap l) (k : Keeps F w w') (hs : ∀ x ∈ F, x ∈ E ∨ w.heap.size ≤ x) : InE w' E a cap l := by
  refine ⟨?_, h.le, h.max, h.nil, h.off⟩
  intro i hi
  obtain ⟨b, off, e, hc, hl⟩ := h.row i hi
  have hlt := World.block_lt_of_cell? _ _ hc
  have hb := k.block b hlt (fun hf => by
    rcases hs b hf with q | q
    · exact h.off (by omega) _ e q
    · simp only at hlt; omega)
  exact ⟨b, off, e, by rw [World.cell?_of_block (a := ⟨b, off + i, none⟩) hb]; exact hc, hl⟩
theorem InE.more {w : World} {E F : List Nat} {a : Option Addr} {cap : Nat} {l : List Nat} (h : InE w E a cap l) (hs : 0 < l.length → ∀ x, a = some x → x.block ∉ F) : InE w F a cap l := ⟨h.row, h.le, h.max, h.nil, hs⟩
/-- In a later world, apart from what is new. -/
theorem InE.to {w w' : World} {E F : List Nat} {a : Option Addr} {cap : Nat} {l : List Nat} (h : InE w E a cap l) (k : Keeps E w w') (hF : ∀ x ∈ F, x ∈ E ∨ w.heap.size ≤ x) : InE w' F a cap l := by
  refine (h.keeps k (fun x hx => .inl hx)).more (fun h0 x hx hm => ?_)
  obtain ⟨b, off, e, hc, _⟩ := h.row 0 h0
  have hlt := World.block_lt_of_cell? _ _ hc
  rw [hx] at e
  injection e with e
  subst e
  rcases hF _ hm with q | q
  · exact h.off h0 _ hx q
  · simp only at hlt q; omega
/-- The cells of a Feeder. -/
def fcells (hd : List Nat) (h : Nat) (v : Value) (sh : Bool) : Array Value := (cv hd ++ [.int .i64 (h : Int), v, .bool sh]).toArray
structure FBox (w : World) (p : Nat) (hd : List Nat) (h : Nat) (v : Value) (sh : Bool) : Prop where
  box : w.heap[p]? = some (.cells (fcells hd h v sh) 37 (0, 0))
  len : hd.length = 4
  lt : ∀ i, hd.getD i 0 < 256
theorem FBox.cells {w : World} {p : Nat} {hd : List Nat} {h : Nat} {v : Value} {sh : Bool} (b : FBox w p hd h v sh) :
    (∀ i, i < 4 → w.cell? ⟨p, i, none⟩ = some (.int .u8 ((hd.getD i 0 : Nat) : Int))) ∧ w.cell? ⟨p, 4, none⟩ = some (.int .i64 (h : Int)) ∧ w.cell? ⟨p, 5, none⟩ = some v ∧ w.cell? ⟨p, 6, none⟩ = some (.bool sh) ∧ ∀ i, w.frozen? ⟨p, i, none⟩ = false := by
  have hc : ∀ j, w.cell? ⟨p, j, none⟩ = (fcells hd h v sh)[j]? := fun j => cell_of_row _ p j _ 37 (0, 0) b.box
  have hl := b.len
  have hcl : (cv hd).length = 4 := by rw [cv_length, hl]
  have hr : ∀ j, (fcells hd h v sh)[4 + j]? = [Value.int .i64 (h : Int), v, .bool sh][j]? := fun j => by
    simp only [fcells, List.getElem?_toArray]
    rw [List.getElem?_append_right (by omega), hcl, Nat.add_sub_cancel_left]
  refine ⟨fun i hi => ?_, by rw [hc]; exact hr 0, by rw [hc]; exact hr 1, by rw [hc]; exact hr 2, fun i => by simp [World.frozen?, b.box]⟩
  rw [hc]
  simp only [fcells, List.getElem?_toArray]
  rw [List.getElem?_append_left (by omega)]
  exact cv_get hd i (by omega)
theorem FBox.keeps {w w' : World} {p : Nat} {hd : List Nat} {h : Nat} {v : Value} {sh : Bool} {F : List Nat} (b : FBox w p hd h v sh) (k : Keeps F w w') (hn : p ∉ F) : FBox w' p hd h v sh :=
  ⟨by rw [k.block p (Array.getElem?_eq_some_iff.1 b.box).1 hn]; exact b.box, b.len, b.lt⟩
theorem set_app_left (a b : List Value) (i : Nat) (v : Value) (h : i < a.length) : (a ++ b).set i v = a.set i v ++ b := by
  rw [List.set_append, if_pos h]
theorem getD_set_lt {l : List Nat} {i c : Nat} (h : ∀ j, l.getD j 0 < 256) (hc : c < 256) : ∀ j, (l.set i c).getD j 0 < 256 := by
  intro j
  by_cases hj : j < l.length
  · rw [getD_set l i j c hj]
    split
    · exact hc
    · exact h j
  · rw [getD_out _ _ (by simp; omega)]; omega
theorem FBox.putHead {w : World} {p : Nat} {hd : List Nat} {h : Nat} {v : Value} {sh : Bool} (b : FBox w p hd h v sh) (i c : Nat) (hi : i < 4) (hc : c < 256) : FBox (w.setCell ⟨p, i, none⟩ (.int .u8 ((c : Nat) : Int))) p (hd.set i c) h v sh := by
  refine ⟨?_, by rw [List.length_set, b.len], getD_set_lt b.lt hc⟩
  rw [setCell_heap b.box]
  unfold fcells
  rw [List.setIfInBounds_toArray, set_app_left _ _ _ _ (by rw [cv_length, b.len]; exact hi), cv_set]
theorem FBox.putHave {w : World} {p : Nat} {hd : List Nat} {h : Nat} {v : Value} {sh : Bool} (b : FBox w p hd h v sh) (k : Nat) : FBox (w.setCell ⟨p, 4, none⟩ (.int .i64 (k : Int))) p hd k v sh := by
  refine ⟨?_, b.len, b.lt⟩
  rw [setCell_heap b.box]
  unfold fcells
  have hcl : (cv hd).length = 4 := by rw [cv_length, b.len]
  rw [List.setIfInBounds_toArray, List.set_append, if_neg (by omega), hcl]
  rfl
theorem FBox.putBody {w : World} {p : Nat} {hd : List Nat} {h : Nat} {v : Value} {sh : Bool} (b : FBox w p hd h v sh) (u : Value) : FBox (w.setCell ⟨p, 5, none⟩ u) p hd h u sh := by
  refine ⟨?_, b.len, b.lt⟩
  rw [setCell_heap b.box]
  unfold fcells
  have hcl : (cv hd).length = 4 := by rw [cv_length, b.len]
  rw [List.setIfInBounds_toArray, List.set_append, if_neg (by omega), hcl]
  rfl
end Go.Proofs.Ythbomgjjdmogpaa
