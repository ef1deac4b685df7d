/- A device in memory: a struct of seven cells over three maps; what keeps it; its counting, cutting, asking. -/
import Derived.Test.YtohncckmennfbaaDoorKey
import Derived.Deep.RegionHeld3
import Derived.WalkLawsBesides
namespace Go.Proofs.YtohncckmennfbaaDoor
set_option linter.unusedSimpArgs false
set_option linter.unusedVariables false
open Go.RowKit Go.MapKept
open Go.ChangeMaps (setBlock heap_setBlock_same heap_setBlock_other)
/-- What was there stays, but for these blocks. -/
structure Keeps (F : List Nat) (w w' : World) : Prop where
  os : w'.os = w.os
  tape : w'.tape = w.tape
  output : w'.output = w.output
  size : w.heap.size ≤ w'.heap.size
  block : ∀ k, k < w.heap.size → k ∉ F → w'.heap[k]? = w.heap[k]?
theorem Keeps.refl (F : List Nat) (w : World) : Keeps F w w := ⟨rfl, rfl, rfl, Nat.le_refl _, fun _ _ _ => rfl⟩
theorem Keeps.mono {F G : List Nat} {w w' : World} (h : Keeps F w w') (hs : ∀ x ∈ F, x ∈ G ∨ w.heap.size ≤ x) : Keeps G w w' :=
  ⟨h.os, h.tape, h.output, h.size, fun k hk hn => h.block k hk (fun hf => by rcases hs k hf with a | a; exact hn a; omega)⟩
theorem Keeps.trans {F G : List Nat} {w w1 w2 : World} (h : Keeps F w w1) (k : Keeps G w1 w2) (hs : ∀ x ∈ G, x ∈ F ∨ w.heap.size ≤ x) : Keeps F w w2 :=
  ⟨k.os.trans h.os, k.tape.trans h.tape, k.output.trans h.output, Nat.le_trans h.size k.size, fun x hx hn =>
    (k.block x (Nat.lt_of_lt_of_le hx h.size) (fun hg => by rcases hs x hg with a | a; exact hn a; omega)).trans (h.block x hx hn)⟩
theorem Keeps.of_below {w w' : World} (h : Below w.heap.size w w') (F : List Nat) : Keeps F w w' := ⟨h.os, h.tape, h.output, h.size, fun k hk _ => h.block k hk⟩
theorem Keeps.below {F : List Nat} {w w' : World} (h : Keeps F w w') {B : Nat} (hB : ∀ x ∈ F, B ≤ x) (hs : B ≤ w.heap.size) : Below B w w' :=
  ⟨h.os, h.tape, h.output, h.size, fun k hk => h.block k (by omega) (fun hf => by have := hB k hf; omega)⟩
theorem Keeps.alloc {F : List Nat} {w w' : World} (h : Keeps F w w') (o : Obj) : Keeps F w (w'.alloc o) :=
  h.trans (Keeps.of_below ((Below.refl _ _).alloc (Nat.le_refl _) o) []) (by simp)
theorem Keeps.drew {F : List Nat} {w w' : World} (h : Keeps F w w') : Keeps F w w'.drew := ⟨h.os, h.tape, h.output, h.size, h.block⟩
theorem Keeps.setCell {F : List Nat} {w w' : World} (h : Keeps F w w') (a : Addr) (v : Value) (ha : a.block ∈ F ∨ w.heap.size ≤ a.block) : Keeps F w (w'.setCell a v) :=
  ⟨h.os, h.tape, h.output, by simpa [World.setCell] using h.size, fun k hk hn => (heap_setCell_other w' a k v (fun e => by rcases ha with q | q; exact hn (e ▸ q); omega)).trans (h.block k hk hn)⟩
theorem Keeps.setBlock {F : List Nat} {w w' : World} (h : Keeps F w w') (b : Nat) (o : Obj) (hb : b ∈ F ∨ w.heap.size ≤ b) : Keeps F w (setBlock w' b o) := by
  refine ⟨h.os, h.tape, h.output, by simpa [Go.ChangeMaps.setBlock] using h.size, fun k hk hn => ?_⟩
  rw [← h.block k hk hn]
  have : b ≠ k := fun e => by rcases hb with q | q; exact hn (e ▸ q); omega
  simp [Go.ChangeMaps.setBlock, this]
/-- A block's bytes as a value. -/
def bv (c : List Nat) : Value := .agg (cv c).toArray
def zeros : List Nat := List.replicate 512 0
structure Dv where
  n : Nat
  base : Nat → List Nat
  pend : Nat → List (List Nat)
  ops : Nat
  cut : Bool
  left : Nat
def Dv.turns (d : Dv) (k : Nat) : Option Value := if k < d.n ∧ d.pend k ≠ [] then some (.int .i64 ((d.pend k).length : Int)) else none
/-- What a device is, plainly. -/
structure Dv.Ok (d : Dv) : Prop where
  n1 : 1 ≤ d.n
  n2 : d.n ≤ 65536
  ops : d.ops ≤ 1000000
  left : d.left ≤ 9223372036854775807
  base : ∀ k, (d.base k).length = 512 ∧ ∀ i, (d.base k).getD i 0 < 256
  pend : ∀ k c, c ∈ d.pend k → c.length = 512 ∧ ∀ i, c.getD i 0 < 256
  count : ∀ k, (d.pend k).length ≤ d.ops
def dcells (d : Dv) (fb pb tb : Nat) : Array Value := #[.int .i64 (d.n : Int), .map (some fb), .map (some pb), .map (some tb), .int .i64 (d.ops : Int), .bool d.cut, .int .i64 (d.left : Int)]
structure DevIs (w : World) (p fb pb tb : Nat) (d : Dv) : Prop where
  cells : w.heap[p]? = some (.cells (dcells d fb pb tb) 75 (0, 0))
  fm : ∃ F m, MapIs w fb mkI F m ∧ ∀ k, k < d.n → (F k).getD (bv zeros) = bv (d.base k)
  pm : ∃ Q m, MapIs w pb mkP Q m ∧ ∀ k j, k < d.n → j < (d.pend k).length → Q (k, j + 1) = some (bv ((d.pend k).getD j []))
  tm : MapIs w tb mkI d.turns d.n
  ne : fb ≠ pb ∧ fb ≠ tb ∧ pb ≠ tb
  ok : d.Ok
def fp (p fb pb tb : Nat) : List Nat := [p, fb, pb, tb]
theorem DevIs.lt {w : World} {p fb pb tb : Nat} {d : Dv} (h : DevIs w p fb pb tb d) : ∀ x ∈ fp p fb pb tb, x < w.heap.size := by
  have hp : p < w.heap.size := (Array.getElem?_eq_some_iff.1 h.cells).1
  obtain ⟨F, m, hF, _⟩ := h.fm
  obtain ⟨Q, m', hQ, _⟩ := h.pm
  have := hF.lt; have := hQ.lt; have := h.tm.lt
  intro x hx
  simp [fp] at hx
  omega
/-- The struct's block is none of the maps'. -/
theorem DevIs.pne {w : World} {p fb pb tb : Nat} {d : Dv} (h : DevIs w p fb pb tb d) : p ≠ fb ∧ p ≠ pb ∧ p ≠ tb := by
  have hc := h.cells
  obtain ⟨F, m, ⟨es1, c1, h1, _⟩, _⟩ := h.fm
  obtain ⟨Q, m', ⟨es2, c2, h2, _⟩, _⟩ := h.pm
  obtain ⟨es3, c3, h3, _⟩ := h.tm
  refine ⟨fun e => ?_, fun e => ?_, fun e => ?_⟩
  · rw [e, h1] at hc; cases hc
  · rw [e, h2] at hc; cases hc
  · rw [e, h3] at hc; cases hc
theorem DevIs.blk {w w' : World} {p fb pb tb : Nat} {d : Dv} (h : DevIs w p fb pb tb d) (e : ∀ x ∈ fp p fb pb tb, w'.heap[x]? = w.heap[x]?) : DevIs w' p fb pb tb d := by
  obtain ⟨hc, ⟨F, m, hF, hF2⟩, ⟨Q, m', hQ, hQ2⟩, ht, hn, ho⟩ := h
  exact ⟨(e p (by simp [fp])).trans hc, ⟨F, m, hF.blk (e fb (by simp [fp])), hF2⟩, ⟨Q, m', hQ.blk (e pb (by simp [fp])), hQ2⟩, ht.blk (e tb (by simp [fp])), hn, ho⟩
theorem DevIs.keeps {w w' : World} {p fb pb tb : Nat} {d : Dv} {G : List Nat} (h : DevIs w p fb pb tb d) (k : Keeps G w w') (hd : ∀ x ∈ fp p fb pb tb, x ∉ G) : DevIs w' p fb pb tb d :=
  h.blk fun x hx => k.block x (h.lt x hx) (hd x hx)
theorem DevIs.below {w w' : World} {p fb pb tb : Nat} {d : Dv} (h : DevIs w p fb pb tb d) (hb : Below w.heap.size w w') : DevIs w' p fb pb tb d :=
  h.keeps (Keeps.of_below hb []) (by simp)
theorem DevIs.heap {w w' : World} {p fb pb tb : Nat} {d : Dv} (h : DevIs w p fb pb tb d) (e : w'.heap = w.heap) : DevIs w' p fb pb tb d := h.blk fun x _ => by rw [e]
/-- The seven cells, as the walk reads them. -/
theorem DevIs.c {w : World} {p fb pb tb : Nat} {d : Dv} (h : DevIs w p fb pb tb d) : w.cell? ⟨p, 0, none⟩ = some (.int .i64 (d.n : Int)) ∧ w.cell? ⟨p, 1, none⟩ = some (.map (some fb)) ∧ w.cell? ⟨p, 2, none⟩ = some (.map (some pb)) ∧
    w.cell? ⟨p, 3, none⟩ = some (.map (some tb)) ∧ w.cell? ⟨p, 4, none⟩ = some (.int .i64 (d.ops : Int)) ∧ w.cell? ⟨p, 5, none⟩ = some (.bool d.cut) ∧ w.cell? ⟨p, 6, none⟩ = some (.int .i64 (d.left : Int)) := by
  refine ⟨?_, ?_, ?_, ?_, ?_, ?_, ?_⟩ <;> rw [cell_of_row _ _ _ _ _ _ h.cells] <;> rfl
theorem DevIs.fr {w : World} {p fb pb tb : Nat} {d : Dv} (h : DevIs w p fb pb tb d) (i : Nat) : w.frozen? ⟨p, i, none⟩ = false := frozen_of_row _ _ _ _ _ h.cells
/-- A store into a cell of the struct that no map's cell is: the counters. -/
theorem DevIs.setCells {w w' : World} {p fb pb tb : Nat} {d d' : Dv} (h : DevIs w p fb pb tb d) (hw : w'.heap[p]? = some (.cells (dcells d' fb pb tb) 75 (0, 0))) (ho : ∀ k, k ≠ p → w'.heap[k]? = w.heap[k]?)
    (hn : d'.n = d.n) (hb : d'.base = d.base) (hp : d'.pend = d.pend) (hok : d'.Ok) : DevIs w' p fb pb tb d' := by
  obtain ⟨n1, n2, n3⟩ := h.pne
  obtain ⟨hc, ⟨F, m, hF, hF2⟩, ⟨Q, m', hQ, hQ2⟩, ht, hne, _⟩ := h
  refine ⟨hw, ⟨F, m, hF.blk (ho _ (Ne.symm n1)), by rw [hn, hb]; exact hF2⟩, ⟨Q, m', hQ.blk (ho _ (Ne.symm n2)), by rw [hn, hp]; exact hQ2⟩, ?_, hne, hok⟩
  have e : d'.turns = d.turns := by funext k; simp [Dv.turns, hn, hp]
  rw [e, hn]
  exact ht.blk (ho _ (Ne.symm n3))
/-- An op is counted. -/
def Dv.tick (d : Dv) : Dv := { d with ops := d.ops + 1, left := if d.cut then d.left - 1 else d.left }
/-- Is the power on for the next op? -/
def Dv.on (d : Dv) : Bool := !(d.cut && d.left == 0)
theorem Dv.Ok.tick {d : Dv} (h : d.Ok) (ho : d.ops < 1000000) : d.tick.Ok :=
  ⟨h.n1, h.n2, by simp [Dv.tick]; omega, by have := h.left; simp only [Dv.tick]; split <;> omega, h.base, h.pend, fun k => by have := h.count k; simp [Dv.tick]; omega⟩
theorem blocks_any (p fb pb tb : Nat) (d : Dv) (w : World) (h : DevIs w p fb pb tb d) :
    Calls Tryd.prog 35 #[.pointer (some ⟨p, 0, none⟩)] w fun e w' => e = .returned (.int .i64 (d.n : Int)) ∧ w' = w := by
  obtain ⟨c0, _⟩ := h.c
  clear h
  go_enter Tryd.func35, Tryd.ntmps35
  go_wp2
  go_ret
  exact ⟨rfl, rfl⟩
def hasB (n : Nat) (k : Int) : Bool := decide (0 ≤ k ∧ k < n)
theorem has_any (p fb pb tb : Nat) (d : Dv) (k : Int) (w : World) (h : DevIs w p fb pb tb d) :
    Calls Tryd.prog 57 #[.pointer (some ⟨p, 0, none⟩), .int .i64 k] w fun e w' => e = .returned (.bool (hasB d.n k)) ∧ w' = w := by
  by_cases hk : 0 ≤ k
  · go_enter Tryd.func57, Tryd.ntmps57
    go_wp2_with (go_at_call 35; refine (blocks_any p fb pb tb d _ h).mono ?_; rintro e w1 ⟨rfl, hw⟩; subst w1)
    go_ret
    exact ⟨retB (by simp [hasB, hk]), rfl⟩
  · go_enter Tryd.func57, Tryd.ntmps57
    go_wp2
    go_ret
    exact ⟨retB (by simp [hasB]; omega), rfl⟩
end Go.Proofs.YtohncckmennfbaaDoor
