/- Rows of bytes in memory: those that are read, and those of the call's own. -/
import Derived.Test.YtnnljdnaipjoiaaRows
import Derived.ProofKit
import Derived.Below
import Derived.Deep.QuietTactic
import Derived.BigQuiet
import Derived.WalkSmall
import Derived.Laws.CopyOwn
import Derived.Laws.Rows
import Derived.Laws.Tables
import Derived.Laws.BitsAllLaws
namespace Go.Proofs.Ytnnljdnaipjoiaa
set_option linter.unusedSimpArgs false
set_option linter.unusedVariables false
open Go.RowKit
/-- The number in a slot. -/
def iof : Value → Int | .int _ q => q | _ => 0
theorem retI {k : IntKind} {a b : Int} (h : a = b) : Ending.returned (.int k a) = .returned (.int k b) := by rw [h]
/-- The slice's address leads to these bytes. -/
def Row (w : World) (a : Option Addr) (l : List Nat) : Prop :=
  ∀ i, i < l.length → ∃ b off, a = some ⟨b, off, none⟩ ∧ w.cell? ⟨b, off + i, none⟩ = some (.int .u8 ((l.getD i 0 : Nat) : Int)) ∧ l.getD i 0 < 256
theorem Row.below {w w' : World} {a : Option Addr} {l : List Nat} (h : Row w a l) (hb : Below w.heap.size w w') : Row w' a l := by
  intro i hi
  obtain ⟨b, off, e, hc, hl⟩ := h i hi
  exact ⟨b, off, e, by rw [hb.cell (World.block_lt_of_cell? _ _ hc)]; exact hc, hl⟩
theorem Row.drewN {w : World} {a : Option Addr} {l : List Nat} (h : Row w a l) (n : Nat) : Row (w.drewN n) a l := h
theorem Row.nil (w : World) (a : Option Addr) : Row w a [] := by intro i hi; simp at hi
theorem retB {a b : Bool} (h : a = b) : Ending.returned (.bool a) = .returned (.bool b) := by rw [h]
theorem getD_out (l : List Nat) (i : Nat) (h : l.length ≤ i) : l.getD i 0 = 0 := by simp [List.getD, List.getElem?_eq_none h]
theorem list_ext {l m : List Nat} (h : l.length = m.length) (h2 : ∀ i, i < l.length → l.getD i 0 = m.getD i 0) : l = m := by
  apply List.ext_getElem h
  intro i a b
  have := h2 i a
  simpa [List.getD, a, b] using this
theorem Try.info5 : (Try.prog.info? 5).map (fun i => (i.zero, i.size, i.bytes)) = some (some (.int .u8 0), 1, 1) := by kernel_rfl
/-- Bytes as values. -/
def cv (l : List Nat) : List Value := l.map fun c => Value.int .u8 ((c : Nat) : Int)
theorem cv_length (l : List Nat) : (cv l).length = l.length := by simp [cv]
theorem cv_append (l m : List Nat) : cv (l ++ m) = cv l ++ cv m := by simp [cv]
theorem cv_get (l : List Nat) (i : Nat) (h : i < l.length) : (cv l)[i]? = some (.int .u8 ((l.getD i 0 : Nat) : Int)) := by simp [cv, List.getD, h]
theorem one_cell {wr : World} {x : Int} {c : Nat} (h : x = c) : ∀ j u, (cv [c])[j]? = some u → (wr.alloc (Obj.cells #[Value.int .u8 x] 5)).cell? ((⟨wr.heap.size, 0, none⟩ : Addr).add j) = some u := by
  intro j u hj
  match j, hj with
  | 0, hj => simp [cv] at hj; subst hj; subst h; simp [Addr.add]
theorem cv_one (l : List Nat) : ∀ u, u ∈ cv l → u.oneCell' = true := by
  intro u hu
  simp only [cv, List.mem_map] at hu
  obtain ⟨c, _, rfl⟩ := hu
  rfl
/-- Behind an append of one byte. -/
theorem own_step {B : Nat} {w0 w w1 : World} {v v' : Value} {o : Obj} {acc : List Nat} {c : Nat} (hown : w.ownsRow B 5 1 v acc.length (cv acc)) (hB : Below B w0 w) (hBs : B ≤ w.heap.size)
    (h : w1.ownsRow B 5 1 v' (acc.length + 1) (cv acc ++ cv [c])) (hg : (w.alloc o).grownBy w1 v.ownBlock) :
    w1.ownsRow B 5 1 v' (acc ++ [c]).length (cv (acc ++ [c])) ∧ Below B w0 w1 := by
  refine ⟨by rw [cv_append, List.length_append]; exact h, ?_⟩
  exact (hB.alloc hBs o).grown hg (by simp; omega) (fun k hk => (hown.lt k hk).1)
theorem owns_row {w : World} {B : Nat} {v : Value} {l : List Nat} (h : w.ownsRow B 5 1 v l.length (cv l)) (hb : ∀ i, l.getD i 0 < 256) : ∃ a cap, v = .slice a l.length cap ∧ Row w a l ∧ l.length ≤ maxLen := by
  rcases h.2 with ⟨rfl, h0⟩ | ⟨g, cap, cur, rfl, hB, hg, hle, hm, _, _⟩
  · refine ⟨none, 0, by rw [h0], ?_, by rw [h0]; decide⟩
    intro i hi; omega
  · refine ⟨_, cap, rfl, ?_, by omega⟩
    intro i hi
    refine ⟨g, 0, rfl, ?_, hb i⟩
    have := h.cells (g := g) rfl i _ (cv_get l i hi)
    simpa [Addr.add_lit] using this
/-- The bytes lie in a block of the calls own, from B on. -/
def Own (B : Nat) (w : World) (g cap : Nat) (l : List Nat) : Prop := w.ownsRow B 5 1 (.slice (some ⟨g, 0, none⟩) l.length cap) l.length (cv l)
theorem Own.row {B : Nat} {w : World} {g cap : Nat} {l : List Nat} (h : Own B w g cap l) (hb : ∀ i, l.getD i 0 < 256) : Row w (some ⟨g, 0, none⟩) l := by
  obtain ⟨a, c, e, hr, _⟩ := owns_row h hb
  injection e with e1 e2 e3
  rw [e1]; exact hr
theorem Own.ge {B : Nat} {w : World} {g cap : Nat} {l : List Nat} (h : Own B w g cap l) : B ≤ g ∧ g < w.heap.size := World.ownsRow.lt h g rfl
theorem Own.le {B : Nat} {w : World} {g cap : Nat} {l : List Nat} (h : Own B w g cap l) : l.length ≤ cap ∧ cap ≤ maxLen := by
  rcases h.2 with ⟨e, _⟩ | ⟨g', cap', cur, e, _, _, hle, hm, _, _⟩
  · cases e
  · injection e with e1 e2 e3; subst e3; exact ⟨hle, hm⟩
theorem Own.cell {B : Nat} {w : World} {g cap : Nat} {l : List Nat} (h : Own B w g cap l) (i : Nat) (hi : i < l.length) : w.cell? ⟨g, i, none⟩ = some (.int .u8 ((l.getD i 0 : Nat) : Int)) := by
  rw [World.ownsRow.cellAt h i (by omega)]; exact cv_get l i hi
theorem Own.free {B : Nat} {w : World} {g cap : Nat} {l : List Nat} (h : Own B w g cap l) (i : Nat) : w.frozen? ⟨g, i, none⟩ = false := World.ownsRow.frozenAt h i
theorem cv_set (l : List Nat) (i c : Nat) : cv (l.set i c) = (cv l).set i (.int .u8 ((c : Nat) : Int)) := by simp [cv, List.map_set]
theorem Own.store {B : Nat} {w : World} {g cap : Nat} {l : List Nat} (h : Own B w g cap l) (i c : Nat) : Own B (w.setCell ⟨g, i, none⟩ (.int .u8 ((c : Nat) : Int))) g cap (l.set i c) := by
  have := World.ownsRow.stored h i (.int .u8 ((c : Nat) : Int))
  unfold Own
  rw [cv_set, List.length_set]
  exact this.1
theorem Own.below {B : Nat} {w w' : World} {g cap : Nat} {l : List Nat} (h : Own B w g cap l) (hb : Below w.heap.size w w') : Own B w' g cap l :=
  World.ownsRow.kept (row := none) h ⟨hb.os, hb.tape, hb.output, hb.size, fun k hk _ => hb.block k hk⟩ (Or.inr (by simp [Value.ownBlock]))
theorem Own.drewN {B : Nat} {w : World} {g cap : Nat} {l : List Nat} (h : Own B w g cap l) (n : Nat) : Own B (w.drewN n) g cap l := h
theorem own_of {B : Nat} {w : World} {g n : Nat} {cs : List Value} {l : List Nat} (hB : B ≤ g) (hn : n = l.length) (hm : n ≤ maxLen) (hc : cs = cv l) (h : w.heap[g]? = some (.cells cs.toArray 5 (0, 0))) : Own B w g n l := by
  subst hc; subst hn
  exact ⟨by simp [cv], .inr ⟨g, l.length, (cv l).toArray, rfl, hB, h, Nat.le_refl _, hm, by simp [cv], List.take_of_length_le (by simp [cv])⟩⟩
theorem below_made {w w1 : World} (hg : w.grownBy w1 none) : Below w.heap.size w w1 := (Below.refl w.heap.size w).grown hg (Nat.le_refl _) (fun k hk => by cases hk)
theorem made_blk {B g n : Nat} {w1 : World} {xs : List Value} (h : w1.ownsRow B 5 1 (.slice (some ⟨g, 0, none⟩) n n) n xs) : ∃ cur : List Value, w1.heap[g]? = some (.cells cur.toArray 5 (0, 0)) ∧ cur.length = n := by
  rcases h.2 with ⟨e, _⟩ | ⟨g', cap', cur, e, _, hg, _, _, hcs, _⟩
  · cases e
  · injection e with e1 e2 e3
    injection e1 with e1
    injection e1 with e1
    subst e1; subst e3
    exact ⟨cur.toList, by simpa using hg, by simpa using hcs⟩
theorem row_src {w : World} {a : Option Addr} {l : List Nat} (h : Row w a l) (h0 : 0 < (cv l).length) : ∃ ad, a = some ad ∧ ∀ j v, (cv l)[j]? = some v → w.cell? (ad.add j) = some v := by
  rw [cv_length] at h0
  obtain ⟨b, off, rfl, _, _⟩ := h 0 h0
  refine ⟨_, rfl, fun j v hj => ?_⟩
  have hjl : j < l.length := by
    have := (List.getElem?_eq_some_iff.1 hj).1
    rwa [cv_length] at this
  obtain ⟨b', off', e, hc, _⟩ := h j hjl
  simp only [Option.some.injEq, Addr.mk.injEq, and_true] at e
  obtain ⟨rfl, rfl⟩ := e
  rw [cv_get l j hjl] at hj
  rw [Addr.add_lit, hc, hj]
theorem splice_all (cur cs : List Value) (h : cur.length = cs.length) : splice cur 0 cs = cs := by
  unfold splice
  rw [List.drop_eq_nil_of_le (by omega)]
  simp
theorem bd64 {a : Int} (h : (Lit.int .i64 a).wf = true) : -9223372036854775808 ≤ a ∧ a ≤ 9223372036854775807 := by
  simpa [Lit.wf, IntKind.min, IntKind.max, IntKind.signed, IntKind.bits] using h
theorem bdu64 {a : Int} (h : (Lit.int .u64 a).wf = true) : 0 ≤ a ∧ a ≤ 18446744073709551615 := by
  simpa [Lit.wf, IntKind.min, IntKind.max, IntKind.signed, IntKind.bits] using h
theorem bdu8 {a : Int} (h : (Lit.int .u8 a).wf = true) : 0 ≤ a ∧ a ≤ 255 := by
  simpa [Lit.wf, IntKind.min, IntKind.max, IntKind.signed, IntKind.bits] using h
/-- From the cells of a slice that came in to a row of bytes. -/
theorem row_of_cells {W : World} {x : Addr} {len cap : Nat} {zs : List Int} (hl : len ≤ cap) (hm : cap ≤ maxLen) (hz : zs.length = cap)
    (hcell : ∀ i, i < zs.length → W.cell? (x.add i) = some (.int .u8 (zs.getD i 0))) (hwz : ∀ n ∈ zs, (Lit.int .u8 n).wf = true) :
    ∃ l : List Nat, len = l.length ∧ Row W (some x) l ∧ l.length ≤ maxLen := by
  have hlen : (zs.take len).length = len := by simp; omega
  refine ⟨(zs.take len).map Int.toNat, by simp; omega, ?_, by simp; omega⟩
  intro i hi
  have hi' : i < len := by simp at hi; omega
  have hiz : i < zs.length := by omega
  have hc := hcell i hiz
  have hb := bdu8 (hwz _ (List.getElem_mem hiz))
  obtain ⟨b, off, spot⟩ := x
  have hspot : spot = none := by
    have h0 := hcell 0 (by omega)
    simpa [Addr.add] using World.cell?_spot h0
  subst hspot
  have e : ((zs.take len).map Int.toNat).getD i 0 = (zs[i]).toNat := by
    simp [List.getD, List.getElem?_take, hi', hiz]
  have e2 : zs.getD i 0 = zs[i] := by simp [List.getD, hiz]
  rw [Addr.add_lit, e2] at hc
  refine ⟨b, off, rfl, ?_, ?_⟩
  · rw [hc, e]
    have : ((zs[i].toNat : Nat) : Int) = zs[i] := by omega
    rw [this]
  · rw [e]; omega
theorem row_news {w : World} {ad : Addr} {l : List Nat} (h : Row w (some ad) l) : ∀ j u, (cv l)[j]? = some u → w.cell? (ad.add j) = some u := by
  intro j u hj
  have hjl : j < l.length := by
    have := (List.getElem?_eq_some_iff.1 hj).1
    rwa [cv_length] at this
  obtain ⟨ad', e, h2⟩ := row_src h (by rw [cv_length]; omega)
  injection e with e
  subst e
  exact h2 j u hj
theorem row_none {w : World} {l : List Nat} (h : Row w none l) : l = [] := by
  match l, h with
  | [], _ => rfl
  | c :: r, h =>
    obtain ⟨_, _, e, _⟩ := h 0 (by simp)
    cases e
theorem row_front {w : World} {a : Option Addr} {l t : List Nat} (h : Row w a (l ++ t)) : Row w a l := by
  intro i hi
  obtain ⟨b, off, e, hc, hl⟩ := h i (by simp; omega)
  have e2 : (l ++ t).getD i 0 = l.getD i 0 := by simp [List.getD, List.getElem?_append, hi]
  rw [e2] at hc hl
  exact ⟨b, off, e, hc, hl⟩
theorem owns_some {w : World} {B : Nat} {v : Value} {l : List Nat} (h : w.ownsRow B 5 1 v l.length (cv l)) (h0 : 0 < l.length) : ∃ g cap, v = .slice (some ⟨g, 0, none⟩) l.length cap ∧ Own B w g cap l := by
  rcases h.2 with ⟨rfl, e⟩ | ⟨g, cap, cur, rfl, _⟩
  · omega
  · exact ⟨g, cap, rfl, h⟩
theorem own_bel {B : Nat} {w0 w w1 : World} {v : Value} {n : Nat} {xs : List Value} (hown : w.ownsRow B 5 1 v n xs) (hB : Below B w0 w) (hBs : B ≤ w.heap.size) (hg : w.grownBy w1 v.ownBlock) : Below B w0 w1 :=
  hB.grown hg hBs (fun k hk => (hown.lt k hk).1)
theorem row_alloc (w : World) (l : List Nat) (h : ∀ i, l.getD i 0 < 256) : Row (w.alloc (.cells (cv l).toArray 5)) (some ⟨w.heap.size, 0, none⟩) l := by
  intro i hi
  refine ⟨w.heap.size, 0, rfl, ?_, h i⟩
  rw [cell_of_row _ w.heap.size (0 + i) (cv l).toArray 5 (0, 0) (heap_alloc_new w _)]
  simpa using cv_get l i hi
theorem Row.lt {w : World} {a : Option Addr} {l : List Nat} (h : Row w a l) (i : Nat) : l.getD i 0 < 256 := by
  by_cases hi : i < l.length
  · obtain ⟨_, _, _, _, h⟩ := h i hi; exact h
  · rw [getD_out _ _ (by omega)]; omega
/-- What is left behind n bytes. -/
def cutA (a : Option Addr) (cap n : Nat) : Option Addr := if cap = n then a else a.map (fun x => x.add n)
theorem row_cut {w : World} {a : Option Addr} {l : List Nat} (cap n : Nat) (hr : Row w a l) (hl : l.length ≤ cap) : Row w (cutA a cap n) (l.drop n) := by
  unfold cutA
  intro i hi
  have hi2 : n + i < l.length := by simp at hi; omega
  obtain ⟨b, off, rfl, hc, hl2⟩ := hr (n + i) hi2
  rw [if_neg (by omega)]
  have e : (l.drop n).getD i 0 = l.getD (n + i) 0 := by simp [List.getD, List.getElem?_drop]
  rw [e]
  exact ⟨b, off + n, by simp [Addr.add], by rw [Nat.add_assoc]; exact hc, hl2⟩
theorem cut_low {a : Option Addr} {cap n M : Nat} (h : ∀ x, a = some x → x.block < M) : ∀ x, cutA a cap n = some x → x.block < M := by
  unfold cutA
  intro x hx
  split at hx
  · exact h x hx
  · cases a with
    | none => cases hx
    | some y =>
      simp only [Option.map_some, Option.some.injEq] at hx
      subst hx
      have := h y rfl
      unfold Addr.add
      split <;> exact this
theorem row_low {w w' : World} {a : Option Addr} {l : List Nat} {M : Nat} (hr : Row w a l) (ha : ∀ x, a = some x → x.block < M) (hb : Below M w w') : Row w' a l := by
  intro i hi
  obtain ⟨b, off, e, hc, hl⟩ := hr i hi
  exact ⟨b, off, e, by rw [hb.cell (p := ⟨b, off + i, none⟩) (show b < M from ha ⟨b, off, none⟩ e)]; exact hc, hl⟩
theorem setCell_heap {w : World} {g : Nat} {cs : Array Value} {t : TypeId} {fr : Nat × Nat} (h : w.heap[g]? = some (.cells cs t fr)) (i : Nat) (v : Value) : (w.setCell ⟨g, i, none⟩ v).heap[g]? = some (.cells (cs.setIfInBounds i v) t fr) := by
  have hlt : g < w.heap.size := (Array.getElem?_eq_some_iff.1 h).1
  have hv : w.heap[g] = .cells cs t fr := (Array.getElem?_eq_some_iff.1 h).2
  unfold World.setCell
  rw [Array.getElem?_eq_getElem (by simpa using hlt), Array.getElem_modify]
  simp [hv]
theorem below_setRow {B : Nat} {a w : World} (h : Below B a w) {g : Nat} (hg : B ≤ g) (cs : Array Value) : Below B a (w.setRow g cs) :=
  ⟨h.os, h.tape, h.output, by simp; exact h.size, fun k hk => (setRow_other w g k cs (by omega)).trans (h.block k hk)⟩
theorem Try.info5s : (Try.prog.info? 5).map (·.size) = some 1 := by kernel_rfl
theorem run_slice_from (w : World) (a : Option Addr) (len cap n : Nat) (k : IntKind) (h : n ≤ len) : (Instr.slice 44 (.slice a len cap) (some (.int k (n : Int))) none none).run Try.prog w = .ok (.slice (cutA a cap n) (len - n) (cap - n)) w := by
  have hs : (sizeOf 5).run Try.prog w = .ok 1 w := by
    obtain ⟨i, hi, e⟩ := Option.map_eq_some_iff.1 Try.info5s
    simp [sizeOf, typeInfo, hi, e]
  have h1 : (0 : Int) ≤ (n : Int) ∧ (n : Int) ≤ (len : Int) := by omega
  simp [Instr.slice, run_underlying Try.underlying44, Instr.sliceBounds, Instr.sliceBound, asIntOf, h1, hs, cutA]
  intro hh
  omega
end Go.Proofs.Ytnnljdnaipjoiaa
