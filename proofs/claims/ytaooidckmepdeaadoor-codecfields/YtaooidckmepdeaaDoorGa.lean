/- Mem Zig Var Unv Str Rd Rt App Ck Jn in one text (wip/tools/merge20.py). -/
import Derived.Test.YtaooidckmepdeaaDoorRows
import Derived.ProofKit
import Derived.Below
import Derived.Deep.QuietTactic
import Derived.BigQuiet
import Derived.WalkSmall
import Derived.Laws.CopyOwn
import Derived.Laws.BitsAllLaws
import Derived.WalkKit
import Derived.OwnWalk
import Derived.Laws.BytesArg
import Derived.Laws.Rows
import Derived.Laws.Tables
import Derived.ArgAppend
import Derived.Laws.AppendOwnNone
import Derived.BigFrame
import Derived.Laws.IdiomStrings
namespace Go.Proofs.YtaooidckmepdeaaDoor
set_option linter.unusedSimpArgs false
set_option linter.unusedVariables false
open Go.RowKit
/-- The number in a slot. -/
def iof : Value → Int | .int _ q => q | _ => 0
theorem retI {k : IntKind} {a b : Int} (h : a = b) : Ending.returned (.int k a) = .returned (.int k b) := by rw [h]
/-- The slice's address leads to these bytes. -/
def Row (w : World) (a : Option Addr) (l : List Nat) : Prop :=
  ∀ i, i < l.length → ∃ b off, a = some ⟨b, off, none⟩ ∧ w.cell? ⟨b, off + i, none⟩ = some (.int .u8 ((l.getD i 0 : Nat) : Int)) ∧ l.getD i 0 < 256
theorem Row.below {w w' : World} {a : Option Addr} {l : List Nat} (h : Row w a l) (hb : Below w.heap.size w w') : Row w' a l := by
  intro i hi
  obtain ⟨b, off, e, hc, hl⟩ := h i hi
  exact ⟨b, off, e, by rw [hb.cell (World.block_lt_of_cell? _ _ hc)]; exact hc, hl⟩
theorem Row.drewN {w : World} {a : Option Addr} {l : List Nat} (h : Row w a l) (n : Nat) : Row (w.drewN n) a l := h
theorem Row.nil (w : World) (a : Option Addr) : Row w a [] := by intro i hi; simp at hi
theorem retB {a b : Bool} (h : a = b) : Ending.returned (.bool a) = .returned (.bool b) := by rw [h]
theorem getD_out (l : List Nat) (i : Nat) (h : l.length ≤ i) : l.getD i 0 = 0 := by simp [List.getD, List.getElem?_eq_none h]
theorem list_ext {l m : List Nat} (h : l.length = m.length) (h2 : ∀ i, i < l.length → l.getD i 0 = m.getD i 0) : l = m := by
  apply List.ext_getElem h
  intro i a b
  have := h2 i a
  simpa [List.getD, a, b] using this
theorem Tryd.info5 : (Tryd.prog.info? 5).map (fun i => (i.zero, i.size, i.bytes)) = some (some (.int .u8 0), 1, 1) := by kernel_rfl
/-- Bytes as values. -/
def cv (l : List Nat) : List Value := l.map fun c => Value.int .u8 ((c : Nat) : Int)
theorem cv_length (l : List Nat) : (cv l).length = l.length := by simp [cv]
theorem cv_append (l m : List Nat) : cv (l ++ m) = cv l ++ cv m := by simp [cv]
theorem cv_get (l : List Nat) (i : Nat) (h : i < l.length) : (cv l)[i]? = some (.int .u8 ((l.getD i 0 : Nat) : Int)) := by simp [cv, List.getD, h]
theorem one_cell {wr : World} {x : Int} {c : Nat} (h : x = c) : ∀ j u, (cv [c])[j]? = some u → (wr.alloc (Obj.cells #[Value.int .u8 x] 5)).cell? ((⟨wr.heap.size, 0, none⟩ : Addr).add j) = some u := by
  intro j u hj
  match j, hj with
  | 0, hj => simp [cv] at hj; subst hj; subst h; simp [Addr.add]
theorem cv_one (l : List Nat) : ∀ u, u ∈ cv l → u.oneCell' = true := by
  intro u hu
  simp only [cv, List.mem_map] at hu
  obtain ⟨c, _, rfl⟩ := hu
  rfl
/-- Behind an append of one byte. -/
theorem own_step {B : Nat} {w0 w w1 : World} {v v' : Value} {o : Obj} {acc : List Nat} {c : Nat} (hown : w.ownsRow B 5 1 v acc.length (cv acc)) (hB : Below B w0 w) (hBs : B ≤ w.heap.size)
    (h : w1.ownsRow B 5 1 v' (acc.length + 1) (cv acc ++ cv [c])) (hg : (w.alloc o).grownBy w1 v.ownBlock) :
    w1.ownsRow B 5 1 v' (acc ++ [c]).length (cv (acc ++ [c])) ∧ Below B w0 w1 := by
  refine ⟨by rw [cv_append, List.length_append]; exact h, ?_⟩
  exact (hB.alloc hBs o).grown hg (by simp; omega) (fun k hk => (hown.lt k hk).1)
theorem owns_row {w : World} {B : Nat} {v : Value} {l : List Nat} (h : w.ownsRow B 5 1 v l.length (cv l)) (hb : ∀ i, l.getD i 0 < 256) : ∃ a cap, v = .slice a l.length cap ∧ Row w a l ∧ l.length ≤ maxLen := by
  rcases h.2 with ⟨rfl, h0⟩ | ⟨g, cap, cur, rfl, hB, hg, hle, hm, _, _⟩
  · refine ⟨none, 0, by rw [h0], ?_, by rw [h0]; decide⟩
    intro i hi; omega
  · refine ⟨_, cap, rfl, ?_, by omega⟩
    intro i hi
    refine ⟨g, 0, rfl, ?_, hb i⟩
    have := h.cells (g := g) rfl i _ (cv_get l i hi)
    simpa [Addr.add_lit] using this
/-- The bytes lie in a block of the calls own, from B on. -/
def Own (B : Nat) (w : World) (g cap : Nat) (l : List Nat) : Prop := w.ownsRow B 5 1 (.slice (some ⟨g, 0, none⟩) l.length cap) l.length (cv l)
theorem Own.row {B : Nat} {w : World} {g cap : Nat} {l : List Nat} (h : Own B w g cap l) (hb : ∀ i, l.getD i 0 < 256) : Row w (some ⟨g, 0, none⟩) l := by
  obtain ⟨a, c, e, hr, _⟩ := owns_row h hb
  injection e with e1 e2 e3
  rw [e1]; exact hr
theorem Own.ge {B : Nat} {w : World} {g cap : Nat} {l : List Nat} (h : Own B w g cap l) : B ≤ g ∧ g < w.heap.size := World.ownsRow.lt h g rfl
theorem Own.le {B : Nat} {w : World} {g cap : Nat} {l : List Nat} (h : Own B w g cap l) : l.length ≤ cap ∧ cap ≤ maxLen := by
  rcases h.2 with ⟨e, _⟩ | ⟨g', cap', cur, e, _, _, hle, hm, _, _⟩
  · cases e
  · injection e with e1 e2 e3; subst e3; exact ⟨hle, hm⟩
theorem Own.cell {B : Nat} {w : World} {g cap : Nat} {l : List Nat} (h : Own B w g cap l) (i : Nat) (hi : i < l.length) : w.cell? ⟨g, i, none⟩ = some (.int .u8 ((l.getD i 0 : Nat) : Int)) := by
  rw [World.ownsRow.cellAt h i (by omega)]; exact cv_get l i hi
theorem Own.free {B : Nat} {w : World} {g cap : Nat} {l : List Nat} (h : Own B w g cap l) (i : Nat) : w.frozen? ⟨g, i, none⟩ = false := World.ownsRow.frozenAt h i
theorem cv_set (l : List Nat) (i c : Nat) : cv (l.set i c) = (cv l).set i (.int .u8 ((c : Nat) : Int)) := by simp [cv, List.map_set]
theorem Own.store {B : Nat} {w : World} {g cap : Nat} {l : List Nat} (h : Own B w g cap l) (i c : Nat) : Own B (w.setCell ⟨g, i, none⟩ (.int .u8 ((c : Nat) : Int))) g cap (l.set i c) := by
  have := World.ownsRow.stored h i (.int .u8 ((c : Nat) : Int))
  unfold Own
  rw [cv_set, List.length_set]
  exact this.1
theorem Own.below {B : Nat} {w w' : World} {g cap : Nat} {l : List Nat} (h : Own B w g cap l) (hb : Below w.heap.size w w') : Own B w' g cap l :=
  World.ownsRow.kept (row := none) h ⟨hb.os, hb.tape, hb.output, hb.size, fun k hk _ => hb.block k hk⟩ (Or.inr (by simp [Value.ownBlock]))
theorem Own.drewN {B : Nat} {w : World} {g cap : Nat} {l : List Nat} (h : Own B w g cap l) (n : Nat) : Own B (w.drewN n) g cap l := h
theorem own_of {B : Nat} {w : World} {g n : Nat} {cs : List Value} {l : List Nat} (hB : B ≤ g) (hn : n = l.length) (hm : n ≤ maxLen) (hc : cs = cv l) (h : w.heap[g]? = some (.cells cs.toArray 5 (0, 0))) : Own B w g n l := by
  subst hc; subst hn
  exact ⟨by simp [cv], .inr ⟨g, l.length, (cv l).toArray, rfl, hB, h, Nat.le_refl _, hm, by simp [cv], List.take_of_length_le (by simp [cv])⟩⟩
theorem below_made {w w1 : World} (hg : w.grownBy w1 none) : Below w.heap.size w w1 := (Below.refl w.heap.size w).grown hg (Nat.le_refl _) (fun k hk => by cases hk)
theorem made_blk {B g n : Nat} {w1 : World} {xs : List Value} (h : w1.ownsRow B 5 1 (.slice (some ⟨g, 0, none⟩) n n) n xs) : ∃ cur : List Value, w1.heap[g]? = some (.cells cur.toArray 5 (0, 0)) ∧ cur.length = n := by
  rcases h.2 with ⟨e, _⟩ | ⟨g', cap', cur, e, _, hg, _, _, hcs, _⟩
  · cases e
  · injection e with e1 e2 e3
    injection e1 with e1
    injection e1 with e1
    subst e1; subst e3
    exact ⟨cur.toList, by simpa using hg, by simpa using hcs⟩
theorem row_src {w : World} {a : Option Addr} {l : List Nat} (h : Row w a l) (h0 : 0 < (cv l).length) : ∃ ad, a = some ad ∧ ∀ j v, (cv l)[j]? = some v → w.cell? (ad.add j) = some v := by
  rw [cv_length] at h0
  obtain ⟨b, off, rfl, _, _⟩ := h 0 h0
  refine ⟨_, rfl, fun j v hj => ?_⟩
  have hjl : j < l.length := by
    have := (List.getElem?_eq_some_iff.1 hj).1
    rwa [cv_length] at this
  obtain ⟨b', off', e, hc, _⟩ := h j hjl
  simp only [Option.some.injEq, Addr.mk.injEq, and_true] at e
  obtain ⟨rfl, rfl⟩ := e
  rw [cv_get l j hjl] at hj
  rw [Addr.add_lit, hc, hj]
theorem splice_all (cur cs : List Value) (h : cur.length = cs.length) : splice cur 0 cs = cs := by
  unfold splice
  rw [List.drop_eq_nil_of_le (by omega)]
  simp
theorem bd64 {a : Int} (h : (Lit.int .i64 a).wf = true) : -9223372036854775808 ≤ a ∧ a ≤ 9223372036854775807 := by
  simpa [Lit.wf, IntKind.min, IntKind.max, IntKind.signed, IntKind.bits] using h
theorem bdu64 {a : Int} (h : (Lit.int .u64 a).wf = true) : 0 ≤ a ∧ a ≤ 18446744073709551615 := by
  simpa [Lit.wf, IntKind.min, IntKind.max, IntKind.signed, IntKind.bits] using h
theorem bdu8 {a : Int} (h : (Lit.int .u8 a).wf = true) : 0 ≤ a ∧ a ≤ 255 := by
  simpa [Lit.wf, IntKind.min, IntKind.max, IntKind.signed, IntKind.bits] using h
/-- From the cells of a slice that came in to a row of bytes. -/
theorem row_of_cells {W : World} {x : Addr} {len cap : Nat} {zs : List Int} (hl : len ≤ cap) (hm : cap ≤ maxLen) (hz : zs.length = cap)
    (hcell : ∀ i, i < zs.length → W.cell? (x.add i) = some (.int .u8 (zs.getD i 0))) (hwz : ∀ n ∈ zs, (Lit.int .u8 n).wf = true) :
    ∃ l : List Nat, len = l.length ∧ Row W (some x) l ∧ l.length ≤ maxLen := by
  have hlen : (zs.take len).length = len := by simp; omega
  refine ⟨(zs.take len).map Int.toNat, by simp; omega, ?_, by simp; omega⟩
  intro i hi
  have hi' : i < len := by simp at hi; omega
  have hiz : i < zs.length := by omega
  have hc := hcell i hiz
  have hb := bdu8 (hwz _ (List.getElem_mem hiz))
  obtain ⟨b, off, spot⟩ := x
  have hspot : spot = none := by
    have h0 := hcell 0 (by omega)
    simpa [Addr.add] using World.cell?_spot h0
  subst hspot
  have e : ((zs.take len).map Int.toNat).getD i 0 = (zs[i]).toNat := by
    simp [List.getD, List.getElem?_take, hi', hiz]
  have e2 : zs.getD i 0 = zs[i] := by simp [List.getD, hiz]
  rw [Addr.add_lit, e2] at hc
  refine ⟨b, off, rfl, ?_, ?_⟩
  · rw [hc, e]
    have : ((zs[i].toNat : Nat) : Int) = zs[i] := by omega
    rw [this]
  · rw [e]; omega
theorem row_news {w : World} {ad : Addr} {l : List Nat} (h : Row w (some ad) l) : ∀ j u, (cv l)[j]? = some u → w.cell? (ad.add j) = some u := by
  intro j u hj
  have hjl : j < l.length := by
    have := (List.getElem?_eq_some_iff.1 hj).1
    rwa [cv_length] at this
  obtain ⟨ad', e, h2⟩ := row_src h (by rw [cv_length]; omega)
  injection e with e
  subst e
  exact h2 j u hj
theorem row_none {w : World} {l : List Nat} (h : Row w none l) : l = [] := by
  match l, h with
  | [], _ => rfl
  | c :: r, h =>
    obtain ⟨_, _, e, _⟩ := h 0 (by simp)
    cases e
theorem row_front {w : World} {a : Option Addr} {l t : List Nat} (h : Row w a (l ++ t)) : Row w a l := by
  intro i hi
  obtain ⟨b, off, e, hc, hl⟩ := h i (by simp; omega)
  have e2 : (l ++ t).getD i 0 = l.getD i 0 := by simp [List.getD, List.getElem?_append, hi]
  rw [e2] at hc hl
  exact ⟨b, off, e, hc, hl⟩
theorem owns_some {w : World} {B : Nat} {v : Value} {l : List Nat} (h : w.ownsRow B 5 1 v l.length (cv l)) (h0 : 0 < l.length) : ∃ g cap, v = .slice (some ⟨g, 0, none⟩) l.length cap ∧ Own B w g cap l := by
  rcases h.2 with ⟨rfl, e⟩ | ⟨g, cap, cur, rfl, _⟩
  · omega
  · exact ⟨g, cap, rfl, h⟩
theorem own_bel {B : Nat} {w0 w w1 : World} {v : Value} {n : Nat} {xs : List Value} (hown : w.ownsRow B 5 1 v n xs) (hB : Below B w0 w) (hBs : B ≤ w.heap.size) (hg : w.grownBy w1 v.ownBlock) : Below B w0 w1 :=
  hB.grown hg hBs (fun k hk => (hown.lt k hk).1)
theorem row_alloc (w : World) (l : List Nat) (h : ∀ i, l.getD i 0 < 256) : Row (w.alloc (.cells (cv l).toArray 5)) (some ⟨w.heap.size, 0, none⟩) l := by
  intro i hi
  refine ⟨w.heap.size, 0, rfl, ?_, h i⟩
  rw [cell_of_row _ w.heap.size (0 + i) (cv l).toArray 5 (0, 0) (heap_alloc_new w _)]
  simpa using cv_get l i hi
theorem Row.lt {w : World} {a : Option Addr} {l : List Nat} (h : Row w a l) (i : Nat) : l.getD i 0 < 256 := by
  by_cases hi : i < l.length
  · obtain ⟨_, _, _, _, h⟩ := h i hi; exact h
  · rw [getD_out _ _ (by omega)]; omega
end Go.Proofs.YtaooidckmepdeaaDoor
namespace Go.Proofs.YtaooidckmepdeaaDoor
set_option linter.unusedSimpArgs false
set_option linter.unusedVariables false
open Go.RowKit
theorem w64 (n : Int) (h0 : -9223372036854775808 ≤ n) (h1 : n ≤ 9223372036854775807) : wrap64 n = n := by unfold wrap64; omega
theorem w64_bd (n : Int) : -9223372036854775808 ≤ wrap64 n ∧ wrap64 n ≤ 9223372036854775807 := by unfold wrap64; omega
theorem wu64 (n : Int) (h0 : 0 ≤ n) (h1 : n ≤ 18446744073709551615) : IntKind.u64.wrap n = n := by rw [IntKind.wrap_u64]; omega

theorem xor_ones (x : Nat) (h : x < 18446744073709551616) : x ^^^ 18446744073709551615 = 18446744073709551615 - x := by
  have e := congrArg BitVec.toNat (BitVec.xor_allOnes (x := BitVec.ofNat 64 x))
  simp only [BitVec.toNat_xor, BitVec.toNat_not, BitVec.toNat_ofNat, BitVec.toNat_allOnes] at e
  rw [Nat.mod_eq_of_lt (by omega)] at e
  exact e

/-- Zig. -/
def zig (v : Int) : Int := if 0 ≤ v then 2 * v else -2 * v - 1
theorem zig_bd (v : Int) (h0 : -9223372036854775808 ≤ v) (h1 : v ≤ 9223372036854775807) : 0 ≤ zig v ∧ zig v ≤ 18446744073709551615 := by unfold zig; split <;> omega
theorem zig_eq (v : Int) (h0 : -9223372036854775808 ≤ v) (h1 : v ≤ 9223372036854775807) :
    bits .xor .u64 (IntKind.u64.wrap (IntKind.u64.wrap v * 2)) (IntKind.u64.wrap (v / 9223372036854775808)) = zig v := by
  simp only [IntKind.wrap_u64]
  by_cases h : 0 ≤ v
  · rw [show v / 9223372036854775808 = 0 by omega, show v % 18446744073709551616 * 2 % 18446744073709551616 = 2 * v by omega, u64_xor _ _ (by omega) (by omega) (by omega) (by omega)]
    simp [zig, h]
    omega
  · rw [show v / 9223372036854775808 = -1 by omega, show v % 18446744073709551616 * 2 % 18446744073709551616 = 18446744073709551616 + 2 * v by omega, u64_xor _ _ (by omega) (by omega) (by omega) (by omega)]
    rw [show ((-1 : Int) % 18446744073709551616).toNat = 18446744073709551615 by decide, xor_ones _ (by omega)]
    simp [zig, h]
    omega

/-- Zag. -/
def zag (u : Int) : Int := if u % 2 = 0 then u / 2 else -(u / 2) - 1
theorem i64_xor_zero (x : Int) (h0 : 0 ≤ x) (h1 : x ≤ 9223372036854775807) : bits .xor .i64 x 0 = x := by
  obtain ⟨n, rfl⟩ := Int.eq_ofNat_of_zero_le h0
  have e2 : (BitVec.ofInt 64 (n : Int)).toNat = n := ofInt_u64 n (by omega)
  show IntKind.i64.wrap ((BitVec.ofInt 64 (n : Int) ^^^ BitVec.ofInt 64 0).toNat : Nat) = _
  rw [BitVec.toNat_xor, e2, show (BitVec.ofInt 64 0).toNat = 0 by decide, Nat.xor_zero, IntKind.wrap_i64]
  omega
theorem i64_xor_ones (x : Int) (h0 : 0 ≤ x) (h1 : x ≤ 9223372036854775807) : bits .xor .i64 x (-1) = -1 - x := by
  obtain ⟨n, rfl⟩ := Int.eq_ofNat_of_zero_le h0
  have e1 : BitVec.ofInt 64 (-1) = BitVec.allOnes 64 := by decide
  have e2 : (BitVec.ofInt 64 (n : Int)).toNat = n := ofInt_u64 n (by omega)
  show IntKind.i64.wrap ((BitVec.ofInt 64 (n : Int) ^^^ BitVec.ofInt 64 (-1)).toNat : Nat) = _
  rw [e1, BitVec.xor_allOnes, BitVec.toNat_not, e2, IntKind.wrap_i64]
  omega
theorem zag_eq (u : Int) (h0 : 0 ≤ u) (h1 : u ≤ 18446744073709551615) :
    bits .xor .i64 (u / 2) (wrap64 (-wrap64 (bits .and .u64 u 1))) = zag u := by
  have e : bits .and .u64 u 1 = u % 2 := by
    rw [u64_and _ _ (by omega) (by omega) (by omega) (by omega)]
    rw [show ((1 : Int).toNat) = 2 ^ 1 - 1 by decide, Nat.and_two_pow_sub_one_eq_mod]
    omega
  rw [e, w64 (u % 2) (by omega) (by omega), w64 (-(u % 2)) (by omega) (by omega)]
  unfold zag
  by_cases h : u % 2 = 0
  · rw [h, if_pos rfl]; exact i64_xor_zero _ (by omega) (by omega)
  · rw [if_neg h, show u % 2 = 1 by omega, i64_xor_ones _ (by omega) (by omega)]; omega
theorem zag_zig (v : Int) : zag (zig v) = v := by unfold zag zig; split <;> split <;> omega

theorem zig_any (v : Int) (w : World) (h0 : -9223372036854775808 ≤ v) (h1 : v ≤ 9223372036854775807) :
    Calls Tryd.prog 109 #[.int .i64 v] w fun e w' => e = .returned (.int .u64 (zig v)) ∧ w' = w := by
  go_enter Tryd.func109, Tryd.ntmps109
  go_wp2
  go_ret
  exact ⟨retI (zig_eq v h0 h1), rfl⟩
theorem rzig_any (v : Int) (w : World) (h0 : -9223372036854775808 ≤ v) (h1 : v ≤ 9223372036854775807) :
    Calls Tryd.prog 96 #[.int .i64 v] w fun e w' => e = .returned (.int .u64 (zig v)) ∧ w' = w := by
  go_enter Tryd.func96, Tryd.ntmps96
  go_wp2
  go_ret
  exact ⟨retI (zig_eq v h0 h1), rfl⟩
theorem zag_any (u : Int) (w : World) (h0 : 0 ≤ u) (h1 : u ≤ 18446744073709551615) :
    Calls Tryd.prog 112 #[.int .u64 u] w fun e w' => e = .returned (.int .i64 (zag u)) ∧ w' = w := by
  go_enter Tryd.func112, Tryd.ntmps112
  go_wp2
  go_ret
  exact ⟨retI (zag_eq u h0 h1), rfl⟩
end Go.Proofs.YtaooidckmepdeaaDoor
namespace Go.Proofs.YtaooidckmepdeaaDoor
set_option linter.unusedSimpArgs false
set_option linter.unusedVariables false
open Go.RowKit
/-- The groups, at most f + 1 of them. -/
def vr : Nat → Nat → List Nat
  | 0, v => [v]
  | f + 1, v => if v < 128 then [v] else (v % 128 + 128) :: vr f (v / 128)
def groups (v : Nat) : List Nat := vr 9 v
structure VrAt (out : List Nat) (acc : List Nat) (V : Nat) : Prop where
  len : acc.length ≤ 9
  lt : V < 2 ^ (64 - 7 * acc.length)
  go : acc ++ vr (9 - acc.length) V = out
theorem VrAt.start (V : Nat) (h : V ≤ 18446744073709551615) : VrAt (groups V) [] V := ⟨by simp, by simp; omega, rfl⟩
theorem VrAt.stop {out acc : List Nat} {V : Nat} (h : VrAt out acc V) (hV : V < 128) : acc ++ [V] = out := by
  rw [← h.go]
  generalize 9 - acc.length = f
  cases f <;> simp [vr, hV]
theorem VrAt.more {out acc : List Nat} {V : Nat} (h : VrAt out acc V) (hV : 128 ≤ V) : VrAt out (acc ++ [V % 128 + 128]) (V / 128) := by
  have h9 : acc.length ≠ 9 := by
    intro e
    have := h.lt
    rw [e] at this
    have e2 : 2 ^ (64 - 7 * 9) = 2 := by decide
    omega
  have hl := h.len
  refine ⟨by simp; omega, ?_, ?_⟩
  · have := h.lt
    rw [show 64 - 7 * acc.length = (64 - 7 * (acc ++ [V % 128 + 128]).length) + 7 by simp; omega, Nat.pow_add] at this
    omega
  · rw [← h.go, show 9 - acc.length = (9 - (acc ++ [V % 128 + 128]).length) + 1 by simp; omega]
    simp only [vr]
    rw [if_neg (by omega)]
    simp
theorem VrAt.bd {out acc : List Nat} {V : Nat} (h : VrAt out acc V) : V ≤ 18446744073709551615 := by
  have := h.lt
  have h2 := Nat.pow_le_pow_right (n := 2) (by decide) (show 64 - 7 * acc.length ≤ 64 by omega)
  omega
theorem or128_nat : ∀ x : Fin 256, x.val ||| 128 = x.val % 128 + 128 := by decide +kernel
theorem u8_or128' (V : Nat) : bits .or .u8 ((V : Int) % 256) 128 = ((V % 128 + 128 : Nat) : Int) := by
  rw [u8_or _ _ (by omega) (by omega) (by omega) (by omega)]
  have := or128_nat ⟨V % 256, by omega⟩
  simp only at this
  rw [show ((V : Int) % 256).toNat = V % 256 by omega, show ((128 : Int).toNat) = 128 by decide, this]
  omega
set_option maxHeartbeats 400000 in
set_option maxRecDepth 100000 in
theorem varint_any (V0 : Nat) (w : World) (hV : V0 ≤ 18446744073709551615) :
    Calls Tryd.prog 108 #[.int .u64 V0] w fun e w' => ∃ v, e = .returned v ∧ w'.ownsRow w.heap.size 5 1 v (groups V0).length (cv (groups V0)) ∧ Below w.heap.size w w' := by
  obtain ⟨i0, hi, hz0, hz1, hz2⟩ := info_parts Tryd.info5
  obtain ⟨out, HO⟩ : ∃ out, Hid (out = groups V0) := ⟨_, rfl⟩
  rw [← HO.out]
  go_enter Tryd.func108, Tryd.ntmps108
  go_wp2
  go_loopw [0, 2] (fun v b wr => ∃ (V : Nat) (acc : List Nat), v = .int .u64 V ∧ VrAt out acc V ∧ wr.ownsRow w.heap.size 5 1 b acc.length (cv acc) ∧ Below w.heap.size w wr) (fun v _ _ => (intOf v).toNat)
  case atStart => exact ⟨V0, [], rfl, by rw [HO.out]; exact VrAt.start V0 hV, World.ownsRow_nil _ _ _ _, Below.refl _ _⟩
  case round =>
    obtain ⟨V, acc, rfl, hA, hown, hbel⟩ := hrel
    have hVb := hA.bd
    have hlen := hA.len
    have hsz := hbel.size
    by_cases h128 : 128 ≤ V
    · have hm := hA.more h128
      have HM : Hid (VrAt out (acc ++ [V % 128 + 128]) (V / 128)) := hm
      have hor := u8_or128' V
      clear hm hA
      go_wp2_with (at_builtin; refine wpList_append_own _ rfl _ _ 29 rfl w.heap.size 5 i0 (.int .u8 0) 1 1 Tryd.underlying29 hi hz0 hz1 hz2 rfl (by decide) _ _ _ rfl (hown.alloc _) ⟨wr.heap.size, 0, none⟩ 1 1 (cv [V % 128 + 128]) rfl rfl (one_cell (by omega)) (cv_one _) (by unfold maxLen; omega) (by omega) (by simp; omega) ?_)
      intro v' w1 hown' hgrow _
      have R := own_step hown hbel hsz hown' hgrow
      clear hown' hgrow hown hbel
      go_wp2
      exact ⟨⟨V / 128, acc ++ [V % 128 + 128], by go_num, HM.out, R.1, R.2⟩, by simp [intOf]; omega⟩
    · have hst := hA.stop (by omega)
      have HS : Hid (acc ++ [V] = out) := hst
      clear hst hA
      have hv1 : ¬ 128 ≤ (V : Int) := by omega
      go_wp2_with (at_builtin; refine wpList_append_own _ rfl _ _ 29 rfl w.heap.size 5 i0 (.int .u8 0) 1 1 Tryd.underlying29 hi hz0 hz1 hz2 rfl (by decide) _ _ _ rfl (hown.alloc _) ⟨wr.heap.size, 0, none⟩ 1 1 (cv [V]) rfl rfl (one_cell rfl) (cv_one _) (by unfold maxLen; omega) (by omega) (by simp; omega) ?_)
      intro v' w1 hown' hgrow _
      have R := own_step hown hbel hsz hown' hgrow
      clear hown' hgrow hown hbel
      go_wp2
      go_ret
      exact ⟨v', rfl, by rw [← HS.out]; exact R.1, R.2⟩
theorem vr_lt (f V : Nat) (h : V < 2 ^ (7 * f + 7)) : ∀ i, (vr f V).getD i 0 < 256 := by
  induction f generalizing V with
  | zero =>
    intro i
    match i with
    | 0 => simp [vr]; omega
    | i + 1 => simp [vr]
  | succ f ih =>
    intro i
    simp only [vr]
    split
    · match i with
      | 0 => simp; omega
      | i + 1 => simp
    · match i with
      | 0 => simp; omega
      | i + 1 =>
        have := ih (V / 128) (by rw [show 7 * (f + 1) + 7 = (7 * f + 7) + 7 by omega, Nat.pow_add] at h; omega) i
        simpa using this
theorem groups_lt (V : Nat) (h : V ≤ 18446744073709551615) : ∀ i, (groups V).getD i 0 < 256 := vr_lt 9 V (by omega)
theorem vr_len (f V : Nat) : 1 ≤ (vr f V).length ∧ (vr f V).length ≤ f + 1 := by
  induction f generalizing V with
  | zero => simp [vr]
  | succ f ih =>
    simp only [vr]
    split
    · simp
    · have := ih (V / 128); simp; omega
theorem groups_len (V : Nat) : 1 ≤ (groups V).length ∧ (groups V).length ≤ 10 := vr_len 9 V
end Go.Proofs.YtaooidckmepdeaaDoor
namespace Go.Proofs.YtaooidckmepdeaaDoor
set_option linter.unusedSimpArgs false
set_option linter.unusedVariables false
open Go.RowKit
/-- The number that the bytes begin with, and how many they are: the groups from place i on, behind v. -/
def uv : List Nat → Nat → Nat → Nat × Nat
  | [], _, _ => (0, 0)
  | c :: r, i, v => if i = 9 ∧ 1 < c then (0, 0) else if 128 ≤ c then uv r (i + 1) (v + c % 128 * 128 ^ i) else if c = 0 ∧ 0 < i then (0, 0) else (v + c % 128 * 128 ^ i, i + 1)
theorem drop_at (l : List Nat) (k : Nat) (h : k < l.length) : l.drop k = l.getD k 0 :: l.drop (k + 1) := by
  rw [List.drop_eq_getElem_cons h]; simp [List.getD, h]
theorem p128 (n : Nat) (h : n ≤ 9) : (128 : Nat) ^ n ≤ 9223372036854775808 := by
  have := Nat.pow_le_pow_right (n := 128) (by decide) h
  omega
theorem u8_and127 (c : Nat) (h : c < 256) : bits .and .u8 (c : Int) 127 = ((c % 128 : Nat) : Int) := by
  rw [u8_and _ _ (by omega) (by omega) (by omega) (by omega), show ((127 : Int).toNat) = 2 ^ 7 - 1 by decide, Nat.and_two_pow_sub_one_eq_mod]
  simp
theorem or7 (V c k : Nat) (hk : k ≤ 9) (h9 : k = 9 → c ≤ 1) (hV : V < 128 ^ k) (hc : c < 128) : bits .or .u64 (V : Int) (IntKind.u64.wrap ((c : Int) * 2 ^ (7 * k))) = ((V + c * 128 ^ k : Nat) : Int) := by
  have hb : c * 128 ^ k + 128 ^ k ≤ 18446744073709551616 := by
    by_cases h : k = 9
    · have : c * 128 ^ k ≤ 1 * 128 ^ k := Nat.mul_le_mul_right _ (h9 h)
      have := p128 k hk
      omega
    · have h1 : c * 128 ^ k ≤ 127 * 128 ^ k := Nat.mul_le_mul_right _ (by omega)
      have h2 := p128 (k + 1) (by omega)
      rw [Nat.pow_succ] at h2
      omega
  have h3 := p128 k hk
  have e : ((c : Int) * 2 ^ (7 * k)) = ((c * 128 ^ k : Nat) : Int) := by
    have : (128 : Nat) ^ k = 2 ^ (7 * k) := by rw [Nat.pow_mul]
    rw [this]; simp
  rw [e, wu64 _ (by omega) (by omega), u64_or_nat _ _ (by omega) (by omega), Nat.or_comm, nat_join (7 * k) _ _ ?_ ?_, Nat.add_comm]
  · rw [Nat.pow_mul]; exact Nat.mul_mod_left _ _
  · rw [Nat.pow_mul]; exact hV
theorem grow7 (V c k : Nat) (hV : V < 128 ^ k) : V + c % 128 * 128 ^ k < 128 ^ (k + 1) := by
  have h1 : c % 128 * 128 ^ k ≤ 127 * 128 ^ k := Nat.mul_le_mul_right _ (by omega)
  rw [Nat.pow_succ]; omega
theorem retII {k j : IntKind} {a b c d : Int} (h : a = b) (h2 : c = d) : Ending.returned (.tuple #[.int k a, .int j c]) = .returned (.tuple #[.int k b, .int j d]) := by rw [h, h2]
theorem uv_cons (c : Nat) (r : List Nat) (i v : Nat) : uv (c :: r) i v = if i = 9 ∧ 1 < c then (0, 0) else if 128 ≤ c then uv r (i + 1) (v + c % 128 * 128 ^ i) else if c = 0 ∧ 0 < i then (0, 0) else (v + c % 128 * 128 ^ i, i + 1) := rfl

structure UvAt (l : List Nat) (r : Nat × Nat) (k V : Nat) : Prop where
  lt : V < 128 ^ k
  go : uv (l.drop k) k V = r

set_option maxRecDepth 100000 in
theorem unv_any (a : Option Addr) (cap : Nat) (l : List Nat) (w : World) (hr : Row w a l) (hl : l.length ≤ maxLen) :
    Calls Tryd.prog 114 #[.slice a l.length cap] w fun e w' => e = .returned (.tuple #[.int .u64 ((uv l 0 0).1 : Nat), .int .i64 ((uv l 0 0).2 : Nat)]) ∧ w' = w := by
  unfold maxLen at hl
  obtain ⟨r, HR⟩ : ∃ r, Hid (uv l 0 0 = r) := ⟨_, rfl⟩
  rw [HR.out]
  go_enter Tryd.func114, Tryd.ntmps114
  go_wp2
  go_loop [2, 8] (fun v i => ∃ k V : Nat, k ≤ l.length ∧ k ≤ 9 ∧ i = .int .i64 k ∧ v = .int .u64 V ∧ UvAt l r k V) (fun _ i => l.length - (intOf i).toNat)
  case atStart => exact ⟨0, 0, by omega, by omega, rfl, rfl, by omega, HR.out⟩
  case round =>
    obtain ⟨k, V, hk, hk9, rfl, rfl, hV, hu⟩ := hrel
    have HU : Hid (uv (l.drop k) k V = r) := hu
    clear hu HR
    by_cases hlt : k < l.length
    · obtain ⟨b, off, rfl, hc, hlt2⟩ := hr k hlt
      have HC : Hid (uv (l.getD k 0 :: l.drop (k + 1)) k V = r) := by rw [← drop_at l k hlt]; exact HU
      clear hr HU
      generalize l.getD k 0 = c at *
      have HV : Hid (V < 128 ^ k) := hV
      clear hV
      have h127 := u8_and127 c hlt2
      have hltI : (k : Int) < (l.length : Int) := by omega
      by_cases h9 : k = 9 ∧ 1 < c
      · have HE : Hid (r = (0, 0)) := by rw [← HC.out, uv_cons, if_pos h9]; exact rfl
        have hk9' : ((k : Int) == 9) = true := by rw [beq_iff_eq]; omega
        have h1c : 1 < (c : Int) := by omega
        clear HC h9
        go_wp2
        go_ret2
        rw [HE.out]
        exact ⟨rfl, rfl⟩
      · have HOR : Hid (bits .or .u64 (V : Int) (IntKind.u64.wrap ((c : Int) % 128 * 2 ^ (7 * k))) = ((V + c % 128 * 128 ^ k : Nat) : Int)) :=
          or7 V (c % 128) k hk9 (by intro e; have : c ≤ 1 := by omega
                                    omega) HV.out (by omega)
        have hd9 : ((k : Int) == 9 && decide (1 < (c : Int))) = false := by
          by_cases h : k = 9
          · have : c ≤ 1 := by omega
            simp; intro _; omega
          · simp; intro e; omega
        by_cases h128 : 128 ≤ c
        · have HE : Hid (uv (l.drop (k + 1)) (k + 1) (V + c % 128 * 128 ^ k) = r) := by rw [← HC.out, uv_cons, if_neg h9, if_pos h128]; exact rfl
          have hk9' : k ≠ 9 := by intro e; exact h9 ⟨e, by omega⟩
          have hkb : ((k : Int) == 9) = false := by rw [beq_eq_false_iff_ne]; omega
          clear HC h9 hd9
          go_wp2
          go_round
          case rel => exact ⟨k + 1, V + c % 128 * 128 ^ k, by omega, by omega, by go_num, by rw [HOR.out], grow7 V c k HV.out, HE.out⟩
          case measure => simp [intOf]; omega
        · by_cases h00 : c = 0 ∧ 0 < k
          · have HE : Hid (r = (0, 0)) := by rw [← HC.out, uv_cons, if_neg h9, if_neg h128, if_pos h00]; exact rfl
            obtain ⟨rfl, hk0⟩ := h00
            clear HC h9
            by_cases hk9' : ((k : Int) == 9) = true
            · go_wp2
              go_ret2
              rw [HE.out]
              exact ⟨rfl, rfl⟩
            · have hk9'' : ((k : Int) == 9) = false := by simpa using hk9'
              clear hk9'
              go_wp2
              go_ret2
              rw [HE.out]
              exact ⟨rfl, rfl⟩
          · have HE : Hid (r = (V + c % 128 * 128 ^ k, k + 1)) := by rw [← HC.out, uv_cons, if_neg h9, if_neg h128, if_neg h00]; exact rfl
            clear HC
            have hc1 : ¬ 128 ≤ (c : Int) := by omega
            by_cases hk9' : ((k : Int) == 9) = true
            · have hk : k = 9 := by have := WalkArith.int_eq hk9'; omega
              have hc1 : ¬ 1 < (c : Int) := by intro e; exact h9 ⟨hk, by omega⟩
              have hc0 : ((c : Int) == 0) = false := by rw [beq_eq_false_iff_ne]; intro e; exact h00 ⟨by omega, by omega⟩
              clear h9 h00 hk hd9
              go_wp2
              go_ret2
              rw [HE.out]
              exact ⟨retII (by rw [HOR.out]) (by omega), rfl⟩
            · have hk9'' : ((k : Int) == 9) = false := by simpa using hk9'
              clear hk9'
              by_cases hc0 : ((c : Int) == 0) = true
              · have hk0 : ¬ (0 : Int) < k := by have := WalkArith.int_eq hc0; intro e; exact h00 ⟨by omega, by omega⟩
                clear h9 h00 hd9
                go_wp2
                go_ret2
                rw [HE.out]
                exact ⟨retII (by rw [HOR.out]) (by omega), rfl⟩
              · have hc0' : ((c : Int) == 0) = false := by simpa using hc0
                clear h9 h00 hc0 hd9
                go_wp2
                go_ret2
                rw [HE.out]
                exact ⟨retII (by rw [HOR.out]) (by omega), rfl⟩
    · have HE : Hid (r = (0, 0)) := by rw [← HU.out, List.drop_eq_nil_of_le (by omega)]; exact rfl
      go_wp2
      go_ret2
      rw [HE.out]
      exact ⟨rfl, rfl⟩
end Go.Proofs.YtaooidckmepdeaaDoor
namespace Go.Proofs.YtaooidckmepdeaaDoor
set_option linter.unusedSimpArgs false
set_option linter.unusedVariables false
open Go.RowKit
theorem own_le {B B' : Nat} {w : World} {g cap : Nat} {l : List Nat} (h : Own B w g cap l) (hb : B' ≤ B) : Own B' w g cap l :=
  ⟨h.1, h.2.elim Or.inl (fun ⟨g, cap, cur, hv, hg, r⟩ => Or.inr ⟨g, cap, cur, hv, Nat.le_trans hb hg, r⟩)⟩
/-- Bytes that may be appended to: those of the call's own, or such as have no room behind them. -/
def Buf (B : Nat) (w : World) (g cap : Nat) (l : List Nat) : Prop := Own B w g cap l ∨ (Row w (some ⟨g, 0, none⟩) l ∧ cap = l.length)
theorem Buf.row {B : Nat} {w : World} {g cap : Nat} {l : List Nat} (h : Buf B w g cap l) (hb : ∀ i, l.getD i 0 < 256) : Row w (some ⟨g, 0, none⟩) l := by
  rcases h with h | h
  · exact h.row hb
  · exact h.1
theorem Buf.below {B : Nat} {w w' : World} {g cap : Nat} {l : List Nat} (h : Buf B w g cap l) (hb : Below w.heap.size w w') : Buf B w' g cap l := by
  rcases h with h | h
  · exact .inl (h.below hb)
  · exact .inr ⟨h.1.below hb, h.2⟩
theorem buf_append {B : Nat} {w0 w : World} {g cap : Nat} {l : List Nat} (h : Buf B w g cap l) (hb : ∀ i, l.getD i 0 < 256) (h0 : 0 < l.length) (hB : Below B w0 w) (hBs : B ≤ w.heap.size)
    (ad : Addr) (m c : Nat) (hm0 : 0 < m) (news : List Nat) (hm : news.length = m) (hn : ∀ j u, (cv news)[j]? = some u → w.cell? (ad.add j) = some u) (h6 : l.length + m ≤ 1000000) (ty : TypeId) :
    ∃ g' cap' w', (Builtin.append_ #[29, 29] ty #[.slice (some ⟨g, 0, none⟩) l.length cap, .slice (some ad) m c]).run Tryd.prog w = .ok (.slice (some ⟨g', 0, none⟩) (l.length + m) cap') w' ∧ Own B w' g' cap' (l ++ news) ∧ Below B w0 w' := by
  obtain ⟨i0, hi, hz0, hz1, hz2⟩ := info_parts Tryd.info5
  subst hm
  have hl : (cv l ++ cv news) = cv (l ++ news) := (cv_append l news).symm
  have hll : l.length + news.length = (l ++ news).length := by simp
  rcases h with h | ⟨hr, hc⟩
  · obtain ⟨v', w', e, ho, hg, _⟩ := run_append_own (P := Tryd.prog) w B 29 ty 5 i0 (.int .u8 0) 1 1 Tryd.underlying29 hi hz0 hz1 hz2 rfl (by decide) (.slice (some ⟨g, 0, none⟩) l.length cap) l.length (cv l) h ad news.length c (cv news) (by rw [cv_length]; omega) hn (cv_one _) (by unfold maxLen; omega) (by omega) hBs
    rw [hl, hll] at ho
    obtain ⟨g', cap', rfl, ho2⟩ := owns_some ho (by rw [← hll]; omega)
    rw [← hll] at e
    exact ⟨g', cap', w', e, ho2, own_bel h hB hBs hg⟩
  · obtain ⟨v', w', e, ho, hg⟩ := run_append_arg_grows (P := Tryd.prog) w 29 ty 5 i0 (.int .u8 0) 1 1 Tryd.underlying29 hi hz0 hz1 hz2 rfl (by decide) ⟨g, 0, none⟩ l.length cap (cv l) (by rw [cv_length]; omega) (row_news hr) ad news.length c (cv news) (by rw [cv_length]; omega) hn (by omega) (by unfold maxLen; omega) (by omega)
    rw [hl, hll] at ho
    obtain ⟨g', cap', rfl, ho2⟩ := owns_some ho (by rw [← hll]; omega)
    rw [← hll] at e
    exact ⟨g', cap', w', e, own_le ho2 hBs, hB.grown hg hBs (fun k hk => by cases hk)⟩
theorem wp_append_run {P : Program} {w w' : World} {o : Oper} {a : Act} {K : Act → World → Prop} {Q : Exit → Act → World → Prop} (s x : Operand) (t : TypeId)
    (ho : o.op = .call { callee := .builtin .append, args := #[s, x], argTypes := #[t, t] }) (v xv v' : Value) (hs : a.eval s = v) (hx : a.eval x = xv)
    (hr : (Builtin.append_ #[t, t] o.type #[v, xv]).run P w = .ok v' w') (h : K (a.put o.dst v') w') : o.wp P a w K Q := by
  unfold Oper.wp execOp
  simp only [ho, resolve, invoke, builtin, Sem.run_bind, Sem.run_pure, Result.andThen_ok, List.map_toArray, List.map_cons, List.map_nil, hs, hx, hr]
  exact h
def strN (l : List Nat) : ByteArray := strOfNums (l.map fun (c : Nat) => (c : Int))
theorem conv_row {w : World} {a : Option Addr} {l : List Nat} (cap : Nat) (hr : Row w a l) : (convert 29 9 (.slice a l.length cap)).run Tryd.prog w = .ok (.string (strN l)) w := by
  by_cases h0 : 0 < l.length
  · obtain ⟨b, off, rfl, _, _⟩ := hr 0 h0
    refine run_convert_bytes_arg (P := Tryd.prog) w 29 5 Tryd.underlying29 Tryd.underlying5 b off l.length cap (l.map fun (c : Nat) => (c : Int)) (by simp) ?_ 9 Tryd.underlying9
    intro i hi
    obtain ⟨b', off', e, hc, _⟩ := hr i hi
    simp only [Option.some.injEq, Addr.mk.injEq, and_true] at e
    obtain ⟨rfl, rfl⟩ := e
    rw [hc]
    simp [List.getD, hi]
  · obtain rfl : l = [] := List.eq_nil_of_length_eq_zero (by omega)
    rw [run_convert_bytes_string w 29 9 5 _ _ cap Tryd.underlying29 Tryd.underlying5 Tryd.underlying9]
    cases a <;> simp [Conv.bytesToString, loadCells, strN, strOfNums]
    all_goals rfl
theorem str_eq (l m : List Nat) (hl : ∀ x, x ∈ l → x < 256) (hm : ∀ x, x ∈ m → x < 256) : ((strN l).toList == (strN m).toList) = decide (l = m) := by
  rw [ByteArray.toList_eq, ByteArray.toList_eq]
  unfold strN
  rw [strOfNums_data, strOfNums_data, List.map_map, List.map_map]
  have inj : ∀ l m : List Nat, (∀ x, x ∈ l → x < 256) → (∀ x, x ∈ m → x < 256) → l.map ((fun n : Int => UInt8.ofNat n.toNat) ∘ fun (c : Nat) => (c : Int)) = m.map ((fun n : Int => UInt8.ofNat n.toNat) ∘ fun (c : Nat) => (c : Int)) → l = m := by
    intro l
    induction l with
    | nil => intro m _ _ h; cases m with
      | nil => rfl
      | cons y s => simp at h
    | cons x r ih =>
      intro m hl hm h
      cases m with
      | nil => simp at h
      | cons y s =>
        simp only [List.map_cons, List.cons.injEq] at h
        have hx := hl x (by simp)
        have hy := hm y (by simp)
        have e : x = y := by
          have := congrArg UInt8.toNat h.1
          simp only [Function.comp, Int.toNat_natCast, UInt8.toNat_ofNat'] at this
          omega
        rw [e, ih s (fun z hz => hl z (by simp [hz])) (fun z hz => hm z (by simp [hz])) h.2]
  by_cases h : l = m
  · rw [decide_eq_true h, h]; simp
  · rw [decide_eq_false h]
    apply beq_false_of_ne
    intro c
    exact h (inj l m hl hm c)
end Go.Proofs.YtaooidckmepdeaaDoor
namespace Go.Proofs.YtaooidckmepdeaaDoor
set_option linter.unusedSimpArgs false
set_option linter.unusedVariables false
open Go.RowKit
theorem uv_bd (l : List Nat) : ∀ (i v : Nat), v < 128 ^ i → i ≤ 9 → (uv l i v).1 ≤ 18446744073709551615 ∧ (uv l i v).2 ≤ i + l.length := by
  induction l with
  | nil => intro i v _ _; simp [uv]
  | cons c r ih =>
    intro i v hv hi
    rw [uv_cons]
    split
    · simp
    · rename_i h9
      split
      · rename_i h128
        have hi9 : i ≠ 9 := fun e => h9 ⟨e, by omega⟩
        have := ih (i + 1) (v + c % 128 * 128 ^ i) (grow7 v c i hv) (by omega)
        simp only [List.length_cons]
        omega
      · rename_i h128
        split
        · simp
        · have hg := grow7 v c i hv
          simp only [List.length_cons]
          refine ⟨?_, by omega⟩
          by_cases e : i = 9
          · subst e
            have hc : c ≤ 1 := by
              have : ¬ 1 < c := fun q => h9 ⟨rfl, q⟩
              omega
            have : c % 128 * 128 ^ 9 ≤ 1 * 128 ^ 9 := Nat.mul_le_mul_right _ (by omega)
            omega
          · have := p128 (i + 1) (by omega)
            omega
def numV (l : List Nat) : Nat := (uv l 0 0).1
def numN (l : List Nat) : Nat := (uv l 0 0).2
theorem numV_le (l : List Nat) : numV l ≤ 18446744073709551615 := (uv_bd l 0 0 (by simp) (by omega)).1
theorem numN_le (l : List Nat) : numN l ≤ l.length := by
  have := (uv_bd l 0 0 (by simp) (by omega)).2
  unfold numN
  omega
/-- What is left behind n bytes. -/
def cutA (a : Option Addr) (cap n : Nat) : Option Addr := if cap = n then a else a.map (fun x => x.add n)
theorem row_cut {w : World} {a : Option Addr} {l : List Nat} (cap n : Nat) (hr : Row w a l) (hl : l.length ≤ cap) : Row w (cutA a cap n) (l.drop n) := by
  unfold cutA
  intro i hi
  have hi2 : n + i < l.length := by simp at hi; omega
  obtain ⟨b, off, rfl, hc, hl2⟩ := hr (n + i) hi2
  rw [if_neg (by omega)]
  have e : (l.drop n).getD i 0 = l.getD (n + i) 0 := by simp [List.getD, List.getElem?_drop]
  rw [e]
  exact ⟨b, off + n, by simp [Addr.add], by rw [Nat.add_assoc]; exact hc, hl2⟩
theorem cut_low {a : Option Addr} {cap n M : Nat} (h : ∀ x, a = some x → x.block < M) : ∀ x, cutA a cap n = some x → x.block < M := by
  unfold cutA
  intro x hx
  split at hx
  · exact h x hx
  · cases a with
    | none => cases hx
    | some y =>
      simp only [Option.map_some, Option.some.injEq] at hx
      subst hx
      have := h y rfl
      unfold Addr.add
      split <;> exact this
theorem row_low {w w' : World} {a : Option Addr} {l : List Nat} {M : Nat} (hr : Row w a l) (ha : ∀ x, a = some x → x.block < M) (hb : Below M w w') : Row w' a l := by
  intro i hi
  obtain ⟨b, off, e, hc, hl⟩ := hr i hi
  exact ⟨b, off, e, by rw [hb.cell (p := ⟨b, off + i, none⟩) (show b < M from ha ⟨b, off, none⟩ e)]; exact hc, hl⟩
/-- The reader in block B: what is left, and whether it is bad; its bytes lie below M. -/
structure RdS (w : World) (B M : Nat) (l : List Nat) (bad : Bool) : Prop where
  ex : ∃ a cap, w.cell? ⟨B, 0, none⟩ = some (.slice a l.length cap) ∧ Row w a l ∧ l.length ≤ cap ∧ cap ≤ maxLen ∧ ∀ x, a = some x → x.block < M
  c1 : w.cell? ⟨B, 1, none⟩ = some (.bool bad)
  f0 : w.frozen? ⟨B, 0, none⟩ = false
  f1 : w.frozen? ⟨B, 1, none⟩ = false
theorem RdS.turn {w w' : World} {B M : Nat} {l : List Nat} {bad : Bool} (h : RdS w B M l bad) (hb : Below M w w') (hc : ∀ i, w'.cell? ⟨B, i, none⟩ = w.cell? ⟨B, i, none⟩) (hf : ∀ i, w'.frozen? ⟨B, i, none⟩ = w.frozen? ⟨B, i, none⟩) : RdS w' B M l bad := by
  obtain ⟨⟨a, cap, c0, hr, h1, h2, h3⟩, c1, f0, f1⟩ := h
  exact ⟨⟨a, cap, by rw [hc]; exact c0, row_low hr h3 hb, h1, h2, h3⟩, by rw [hc]; exact c1, by rw [hf]; exact f0, by rw [hf]; exact f1⟩
theorem below_two {w : World} {B : Nat} {u v : Value} : Below B w ((w.setCell ⟨B, 1, none⟩ u).setCell ⟨B, 0, none⟩ v) := ((Below.refl B w).setCell (p := ⟨B, 1, none⟩) (Nat.le_refl B) u).setCell (p := ⟨B, 0, none⟩) (Nat.le_refl B) v
theorem rd_set {w : World} {B M : Nat} {a : Option Addr} {cap n : Nat} {l : List Nat} {b1 b2 : Bool} {v : Value} (hM : M ≤ B) (hr : Row w a l) (hl : l.length ≤ cap) (hc : cap ≤ maxLen) (hn : n ≤ l.length) (ha : ∀ x, a = some x → x.block < M)
    (c0 : w.cell? ⟨B, 0, none⟩ = some v) (c1 : w.cell? ⟨B, 1, none⟩ = some (.bool b1)) (f0 : w.frozen? ⟨B, 0, none⟩ = false) (f1 : w.frozen? ⟨B, 1, none⟩ = false) :
    RdS ((w.setCell ⟨B, 1, none⟩ (.bool b2)).setCell ⟨B, 0, none⟩ (.slice (cutA a cap n) (l.length - n) (cap - n))) B M (l.drop n) b2 := by
  have hb : Below M w ((w.setCell ⟨B, 1, none⟩ (.bool b2)).setCell ⟨B, 0, none⟩ (.slice (cutA a cap n) (l.length - n) (cap - n))) := below_two.mono hM
  refine ⟨⟨cutA a cap n, cap - n, ?_, row_low (row_cut cap n hr hl) (cut_low ha) hb, by simp; omega, by omega, cut_low ha⟩, ?_, ?_, ?_⟩
  · rw [List.length_drop]
    refine World.cell?_setCell_same (u := v) _ _ _ ?_
    rw [World.cell?_setCell_other _ _ _ _ (fun e => by cases e)]
    exact c0
  · rw [World.cell?_setCell_other _ _ _ _ (fun e => by cases e)]
    exact World.cell?_setCell_same _ _ _ c1
  · rw [World.frozen?_setCell, World.frozen?_setCell]; exact f0
  · rw [World.frozen?_setCell, World.frozen?_setCell]; exact f1
set_option maxRecDepth 100000 in
theorem number_any (B M : Nat) (l : List Nat) (bad : Bool) (w : World) (hM : M ≤ B) (h : RdS w B M l bad) :
    Calls Tryd.prog 111 #[.pointer (some ⟨B, 0, none⟩)] w fun e w' => e = .returned (.int .u64 ((numV l : Nat) : Int)) ∧ RdS w' B M (l.drop (numN l)) (bad || numN l == 0) ∧ Below B w w' ∧ w'.heap.size = w.heap.size := by
  obtain ⟨⟨a, cap, c0, hr, hl, hc, ha⟩, c1, f0, f1⟩ := h
  have HU : Hid _ := unv_any a cap l w hr (by omega)
  have h1 := numN_le l
  have h2 := numV_le l
  change Hid (Calls Tryd.prog 114 #[.slice a l.length cap] w fun e w' => e = .returned (.tuple #[.int .u64 (numV l : Nat), .int .i64 (numN l : Nat)]) ∧ w' = w) at HU
  generalize numN l = n at *
  generalize numV l = V at *
  have HR : Hid (∀ b2, RdS ((w.setCell ⟨B, 1, none⟩ (.bool b2)).setCell ⟨B, 0, none⟩ (.slice (cutA a cap n) (l.length - n) (cap - n))) B M (l.drop n) b2) := fun b2 => rd_set hM hr hl hc h1 ha c0 c1 f0 f1
  unfold maxLen at hc
  have hnI : (n : Int) ≤ (l.length : Int) := by omega
  have hnC : (l.length : Int) ≤ (cap : Int) := by omega
  clear hr ha
  have HX : Hid (((n : Int) == 0) = (n == 0)) := by
    show _ = _
    rw [Bool.eq_iff_iff]
    simp
  by_cases hcn : cap = n
  · have HA : Hid (cutA a cap n = a) := by show _ = _; simp [cutA, hcn]
    rw [HA.out] at HR
    subst hcn
    cases bad
    · go_enter Tryd.func111, Tryd.ntmps111
      go_wp2_with (go_at_call 114; refine Calls.mono HU.out ?_; rintro e w' ⟨rfl, hw⟩; subst w')
      go_ret
      refine ⟨rfl, ?_, below_two, by simp⟩
      have := HR.out (cap == 0)
      rw [HX.out, Bool.false_or]
      rw [show l.length - cap = 0 by omega, Nat.sub_self] at this
      exact this
    · go_enter Tryd.func111, Tryd.ntmps111
      go_wp2_with (go_at_call 114; refine Calls.mono HU.out ?_; rintro e w' ⟨rfl, hw⟩; subst w')
      go_ret
      refine ⟨rfl, ?_, below_two, by simp⟩
      have := HR.out true
      rw [show l.length - cap = 0 by omega, Nat.sub_self] at this
      exact this
  · have HA : Hid (cutA a cap n = a.map (fun x => x.add n)) := by show _ = _; simp [cutA, hcn]
    rw [HA.out] at HR
    cases bad
    · go_enter Tryd.func111, Tryd.ntmps111
      go_wp2_with (go_at_call 114; refine Calls.mono HU.out ?_; rintro e w' ⟨rfl, hw⟩; subst w')
      go_ret
      refine ⟨rfl, ?_, below_two, by simp⟩
      have := HR.out (n == 0)
      rw [HX.out, Bool.false_or]
      exact this
    · go_enter Tryd.func111, Tryd.ntmps111
      go_wp2_with (go_at_call 114; refine Calls.mono HU.out ?_; rintro e w' ⟨rfl, hw⟩; subst w')
      go_ret
      refine ⟨rfl, ?_, below_two, by simp⟩
      exact HR.out true
end Go.Proofs.YtaooidckmepdeaaDoor
namespace Go.Proofs.YtaooidckmepdeaaDoor
set_option linter.unusedSimpArgs false
set_option linter.unusedVariables false
open Go.RowKit
def txO (l : List Nat) : Bool := decide ((l.drop (numN l)).length < numV l)
def txV (there : Bool) (l : List Nat) : List Nat := if there then (if txO l then [] else (l.drop (numN l)).take (numV l)) else []
def txL (there : Bool) (l : List Nat) : List Nat := if there then (if txO l then l.drop (numN l) else (l.drop (numN l)).drop (numV l)) else l
def txB (there : Bool) (l : List Nat) (bad : Bool) : Bool := if there then ((bad || numN l == 0) || txO l) else bad
theorem rd_bad {w : World} {B M : Nat} {l : List Nat} {bad : Bool} (h : RdS w B M l bad) (hM : M ≤ B) : RdS (w.setCell ⟨B, 1, none⟩ (.bool true)) B M l true := by
  obtain ⟨⟨a, cap, c0, hr, h1, h2, h3⟩, c1, f0, f1⟩ := h
  refine ⟨⟨a, cap, ?_, row_low hr h3 ((Below.refl M w).setCell (p := ⟨B, 1, none⟩) hM _), h1, h2, h3⟩, World.cell?_setCell_same _ _ _ c1, ?_, ?_⟩
  · rw [World.cell?_setCell_other _ _ _ _ (fun e => by cases e)]; exact c0
  · rw [World.frozen?_setCell]; exact f0
  · rw [World.frozen?_setCell]; exact f1
theorem rd_left {w : World} {B M : Nat} {a : Option Addr} {cap n : Nat} {l : List Nat} {bad : Bool} {v : Value} (hM : M ≤ B) (hr : Row w a l) (hl : l.length ≤ cap) (hc : cap ≤ maxLen) (hn : n ≤ l.length) (ha : ∀ x, a = some x → x.block < M)
    (c0 : w.cell? ⟨B, 0, none⟩ = some v) (c1 : w.cell? ⟨B, 1, none⟩ = some (.bool bad)) (f0 : w.frozen? ⟨B, 0, none⟩ = false) (f1 : w.frozen? ⟨B, 1, none⟩ = false) :
    RdS (w.setCell ⟨B, 0, none⟩ (.slice (cutA a cap n) (l.length - n) (cap - n))) B M (l.drop n) bad := by
  have hb : Below M w (w.setCell ⟨B, 0, none⟩ (.slice (cutA a cap n) (l.length - n) (cap - n))) := (Below.refl M w).setCell (p := ⟨B, 0, none⟩) hM _
  refine ⟨⟨cutA a cap n, cap - n, ?_, row_low (row_cut cap n hr hl) (cut_low ha) hb, by simp; omega, by omega, cut_low ha⟩, ?_, ?_, ?_⟩
  · rw [List.length_drop]
    exact World.cell?_setCell_same _ _ _ c0
  · rw [World.cell?_setCell_other _ _ _ _ (fun e => by cases e)]
    exact c1
  · rw [World.frozen?_setCell]; exact f0
  · rw [World.frozen?_setCell]; exact f1
theorem row_take {w : World} {a : Option Addr} {l : List Nat} (n : Nat) (hr : Row w a l) : Row w a (l.take n) := by
  rw [← List.take_append_drop n l] at hr
  exact row_front hr
theorem conv_take {w : World} {a : Option Addr} {l : List Nat} (cap : Nat) {V : Nat} (hr : Row w a l) (hV : ¬ l.length < V) : (convert 29 9 (.slice a V cap)).run Tryd.prog w = .ok (.string (strN (l.take V))) w := by
  have := conv_row cap (row_take V hr)
  rw [show (l.take V).length = V by simp; omega] at this
  exact this
set_option maxRecDepth 100000 in
theorem rtx_any (there : Bool) (B M : Nat) (l : List Nat) (bad : Bool) (w : World) (hM : M ≤ B) (h : RdS w B M l bad) :
    Calls Tryd.prog 113 #[.pointer (some ⟨B, 0, none⟩), .bool there] w fun e w' => e = .returned (.string (strN (txV there l))) ∧ RdS w' B M (txL there l) (txB there l bad) ∧ Below B w w' ∧ w'.heap.size = w.heap.size := by
  cases there
  · go_enter Tryd.func113, Tryd.ntmps113
    go_wp2_with fail
    go_ret
    exact ⟨rfl, h, Below.refl _ _, rfl⟩
  · have HN : Hid _ := number_any B M l bad w hM h
    have hV := numV_le l
    by_cases hb : (l.drop (numN l)).length < numV l
    · rw [show txV true l = [] by simp only [txV, txO, if_true, decide_eq_true hb], show txL true l = l.drop (numN l) by simp only [txL, txO, if_true, decide_eq_true hb], show txB true l bad = true by simp only [txB, txO, if_true, decide_eq_true hb, Bool.or_true]]
      generalize (bad || numN l == 0) = b1 at *
      generalize l.drop (numN l) = l1 at *
      generalize numV l = V at *
      clear h
      have hbI : (l1.length : Int) < (V : Int) := by omega
      have tok : True := trivial
      go_enter Tryd.func113, Tryd.ntmps113
      go_wp2_with (go_at_call 111; refine Calls.mono HN.out ?_; rintro e w1 ⟨rfl, hR, hB1, hz1⟩; have HR : Hid _ := rd_bad hR hM; obtain ⟨⟨a, cap, c0, hr, h1, h2, h3⟩, c1, f0, f1⟩ := hR; unfold maxLen at h2; have hw : IntKind.u64.wrap (l1.length : Int) = (l1.length : Int) := (by rw [IntKind.wrap_u64]; omega); clear hr)
      go_ret
      exact ⟨rfl, HR.out, hB1.setCell (p := ⟨B, 1, none⟩) (Nat.le_refl B) _, by simp; exact hz1⟩
    · rw [show txV true l = (l.drop (numN l)).take (numV l) by simp only [txV, txO, if_true, decide_eq_false hb]; simp, show txL true l = (l.drop (numN l)).drop (numV l) by simp only [txL, txO, if_true, decide_eq_false hb]; simp, show txB true l bad = (bad || numN l == 0) by simp only [txB, txO, if_true, decide_eq_false hb, Bool.or_false]]
      generalize (bad || numN l == 0) = b1 at *
      generalize l.drop (numN l) = l1 at *
      generalize numV l = V at *
      clear h
      have hbI : (V : Int) ≤ (l1.length : Int) := by omega
      go_enter Tryd.func113, Tryd.ntmps113
      go_wp2_with (go_at_call 111; refine Calls.mono HN.out ?_; rintro e w1 ⟨rfl, hR, hB1, hz1⟩; obtain ⟨⟨a, cap, c0, hr, h1, h2, h3⟩, c1, f0, f1⟩ := hR; unfold maxLen at h2; have hw : IntKind.u64.wrap (l1.length : Int) = (l1.length : Int) := (by rw [IntKind.wrap_u64]; omega); have hcI : (l1.length : Int) ≤ (cap : Int) := (by omega); have hvc : (V : Int) ≤ (cap : Int) := (by omega); have kc := conv_take cap hr hb; have HR : Hid _ := rd_left hM hr h1 h2 (Nat.le_of_not_lt hb) h3 c0 c1 f0 f1; clear hr h3)
      · have hne : cap = V := by assumption
        go_ret
        have := HR.out
        simp only [cutA, if_pos hne, hne, Nat.sub_self] at this
        exact ⟨rfl, this, hB1.setCell (p := ⟨B, 0, none⟩) (Nat.le_refl B) _, by simp; exact hz1⟩
      · have hne : ¬ cap = V := by assumption
        go_ret
        have := HR.out
        simp only [cutA, if_neg hne] at this
        exact ⟨rfl, this, hB1.setCell (p := ⟨B, 0, none⟩) (Nat.le_refl B) _, by simp; exact hz1⟩
end Go.Proofs.YtaooidckmepdeaaDoor
namespace Go.Proofs.YtaooidckmepdeaaDoor
set_option linter.unusedSimpArgs false
set_option linter.unusedVariables false
open Go.RowKit
theorem wpList_append_row {w : World} {ops : Array Oper} {rest : List Oper} {o : Oper} {a : Act} {Q : Exit → Act → World → Prop} (hw : Region.wanted o (yielded ops a.tmps) = true) (s x : Operand)
    (ho : o.op = .call { callee := .builtin .append, args := #[s, x], argTypes := #[29, 29] }) (B : Nat) (w0 : World)
    (v : Value) (n : Nat) (xs : List Value) (hs : a.eval s = v) (hown : w.ownsRow B 5 1 v n xs) (hB : Below B w0 w) (hBs : B ≤ w.heap.size)
    (a' : Option Addr) (cap : Nat) (l : List Nat) (hx : a.eval x = .slice a' l.length cap) (hr : Row w a' l) (hn : a' = none → cap = 0) (h63 : n + l.length ≤ 1000000)
    (h : ∀ v' w', w'.ownsRow B 5 1 v' (n + l.length) (xs ++ cv l) → Below B w0 w' → wpList Tryd.prog ops Q rest (a.put o.dst v') w') : wpList Tryd.prog ops Q (o :: rest) a w := by
  obtain ⟨i0, hi, hz0, hz1, hz2⟩ := info_parts Tryd.info5
  cases a' with
  | none =>
    obtain rfl := row_none hr
    obtain rfl := hn rfl
    refine BigFrame.wpList_want hw fun K hK => ?_
    have hrun := run_append_owned_none (P := Tryd.prog) (w := w) B 29 o.type 5 i0 1 Tryd.underlying29 hi v n xs hown
    have h0 : wpList Tryd.prog ops Q rest (a.put o.dst v) w := h v w (by simpa [cv] using hown) hB
    unfold Oper.wp
    simp [execOp, ho, resolve, invoke, builtin, hs, hx, hrun, Result.andThen]
    exact hK _ _ h0
  | some ad =>
    refine BigFrame.wpList_want hw fun K hK => ?_
    refine wp_append_own w s x 29 ho B 5 i0 (.int .u8 0) 1 1 Tryd.underlying29 hi hz0 hz1 hz2 rfl (by decide) v n xs hs hown ad l.length cap (cv l) hx (by rw [cv_length]; omega) (row_news hr) (cv_one _) (by unfold maxLen; omega) (by omega) hBs ?_
    intro v' w' h2 h3 _
    exact hK _ _ (h v' w' h2 (hB.grown h3 hBs (fun k hk => (hown.lt k hk).1)))
theorem wp_append_row {w : World} {o : Oper} {a : Act} {K : Act → World → Prop} {Q : Exit → Act → World → Prop} (s x : Operand)
    (ho : o.op = .call { callee := .builtin .append, args := #[s, x], argTypes := #[29, 29] }) (B : Nat) (w0 : World)
    (v : Value) (n : Nat) (xs : List Value) (hs : a.eval s = v) (hown : w.ownsRow B 5 1 v n xs) (hB : Below B w0 w) (hBs : B ≤ w.heap.size)
    (a' : Option Addr) (cap : Nat) (l : List Nat) (hx : a.eval x = .slice a' l.length cap) (hr : Row w a' l) (hn : a' = none → cap = 0) (h63 : n + l.length ≤ 1000000)
    (h : ∀ v' w', w'.ownsRow B 5 1 v' (n + l.length) (xs ++ cv l) → Below B w0 w' → K (a.put o.dst v') w') : o.wp Tryd.prog a w K Q := by
  obtain ⟨i0, hi, hz0, hz1, hz2⟩ := info_parts Tryd.info5
  cases a' with
  | none =>
    obtain rfl := row_none hr
    obtain rfl := hn rfl
    have hrun := run_append_owned_none (P := Tryd.prog) (w := w) B 29 o.type 5 i0 1 Tryd.underlying29 hi v n xs hown
    have h0 := h v w (by simpa [cv] using hown) hB
    unfold Oper.wp
    simp [execOp, ho, resolve, invoke, builtin, hs, hx, hrun, Result.andThen]
    exact h0
  | some ad =>
    refine wp_append_own w s x 29 ho B 5 i0 (.int .u8 0) 1 1 Tryd.underlying29 hi hz0 hz1 hz2 rfl (by decide) v n xs hs hown ad l.length cap (cv l) hx (by rw [cv_length]; omega) (row_news hr) (cv_one _) (by unfold maxLen; omega) (by omega) hBs ?_
    intro v' w' h2 h3 _
    exact h v' w' h2 (hB.grown h3 hBs (fun k hk => (hown.lt k hk).1))
end Go.Proofs.YtaooidckmepdeaaDoor
namespace Go.Proofs.YtaooidckmepdeaaDoor
set_option linter.unusedSimpArgs false
set_option linter.unusedVariables false
open Go.RowKit
/-- A record. -/
structure Rc where
  hk : Bool
  k : ByteArray
  hv : Bool
  v : ByteArray
  t : Int
  o : Int
def Rc.cells (r : Rc) : Array Value := #[.bool r.hk, .string r.k, .bool r.hv, .string r.v, .int .i64 r.t, .int .i64 r.o]
def timeB (t : Int) : Bool := decide (0 ≤ t ∧ t ≤ 1125899906842624)
theorem bcell {W w1 : World} (hb : Below W.heap.size W w1) : (∀ b o, b < W.heap.size → w1.cell? ⟨b, o, none⟩ = W.cell? ⟨b, o, none⟩) ∧ (∀ b o, b < W.heap.size → w1.frozen? ⟨b, o, none⟩ = W.frozen? ⟨b, o, none⟩) :=
  ⟨fun b o h => hb.cell (p := ⟨b, o, none⟩) h, fun b o h => hb.frozen (p := ⟨b, o, none⟩) h⟩
theorem isTime_any (t : Int) (w : World) : Calls Tryd.prog 105 #[.int .i64 t] w fun e w' => e = .returned (.bool (timeB t)) ∧ w' = w := by
  by_cases h1 : 0 ≤ t
  · by_cases h2 : t ≤ 1125899906842624
    all_goals
      go_enter Tryd.func105, Tryd.ntmps105
      go_wp2
      go_ret
      simp [timeB, h1, h2]
  · go_enter Tryd.func105, Tryd.ntmps105
    go_wp2
    go_ret
    simp [timeB]
    omega
/-- Check's answer. -/
def oddB (r : Rc) : Bool := (r.hk == false && !(r.k.toList == [])) || (r.hv == false && !(r.v.toList == [])) || timeB r.t == false || decide (r.o < 0) || decide (99 < r.o)
def chk (r : Rc) : Int := if oddB r = true then 1 else if 2000 < (r.k.size : Int) ∨ 2000 < (r.v.size : Int) then 2 else 0
theorem below_box {w : World} (o : Obj) : Below w.heap.size w (w.alloc o) := (Below.refl _ _).alloc (Nat.le_refl _) _
set_option maxRecDepth 100000 in
theorem check_any (r : Rc) (w : World) : Calls Tryd.prog 102 #[.agg r.cells] w fun e w' => e = .returned (.int .i64 (chk r)) ∧ Below w.heap.size w w' := by
  obtain ⟨hk, k, hv, v, t, o⟩ := r
  simp only [Rc.cells]
  obtain ⟨c, HC⟩ : ∃ c, Hid (chk ⟨hk, k, hv, v, t, o⟩ = c) := ⟨_, rfl⟩
  rw [HC.out]
  go_enter Tryd.func102, Tryd.ntmps102
  go_wp2_with (go_at_call 105; refine (isTime_any _ _).mono ?_; rintro e w' ⟨rfl, rfl⟩)
  all_goals
    go_ret
    refine ⟨retI ?_, below_box _⟩
    rw [← HC.out]
    clear HC
    simp only [chk, oddB]
    grind
theorem odd_any (r : Rc) (w : World) : Calls Tryd.prog 94 #[.agg r.cells] w fun e w' => e = .returned (.bool (oddB r)) ∧ Below w.heap.size w w' := by
  obtain ⟨hk, k, hv, v, t, o⟩ := r
  simp only [Rc.cells]
  obtain ⟨c, HC⟩ : ∃ c, Hid (oddB ⟨hk, k, hv, v, t, o⟩ = c) := ⟨_, rfl⟩
  rw [HC.out]
  go_enter Tryd.func94, Tryd.ntmps94
  go_wp2_with fail
  all_goals
    go_ret
    refine ⟨retB ?_, below_box _⟩
    rw [← HC.out]
    clear HC
    simp only [oddB, timeB]
    grind
theorem rcheck_any (r : Rc) (w : World) : Calls Tryd.prog 84 #[.agg r.cells] w fun e w' => e = .returned (.int .i64 (chk r)) ∧ Below w.heap.size w w' := by
  have HO : Hid _ := odd_any r
  obtain ⟨c, HC⟩ : ∃ c, Hid (chk r = c) := ⟨_, rfl⟩
  rw [HC.out]
  obtain ⟨hk, k, hv, v, t, o⟩ := r
  have HD : Hid (chk ⟨hk, k, hv, v, t, o⟩ = if oddB ⟨hk, k, hv, v, t, o⟩ = true then 1 else if 2000 < (k.size : Int) ∨ 2000 < (v.size : Int) then 2 else 0) := rfl
  simp only [Rc.cells] at HO ⊢
  generalize oddB ⟨hk, k, hv, v, t, o⟩ = b at *
  go_enter Tryd.func84, Tryd.ntmps84
  go_wp2_with (go_at_call 94; refine (HO.out _).mono ?_; rintro e w1 ⟨rfl, hb⟩; obtain ⟨hc, hf⟩ := bcell hb; have hz : w.heap.size < w1.heap.size := by (have := hb.size; simp at this; omega))
  all_goals
    go_ret
    refine ⟨retI ?_, (below_box _).trans (hb.mono (by simp))⟩
    rw [← HC.out, HD.out]
    clear HC HD HO hc hf hb
    grind
end Go.Proofs.YtaooidckmepdeaaDoor
namespace Go.Proofs.YtaooidckmepdeaaDoor
set_option linter.unusedSimpArgs false
set_option linter.unusedVariables false
open Go.RowKit
/-- Pieces one behind the other. -/
def flat (ps : List (Option Addr × Nat × List Nat)) : List Nat := (ps.map (·.2.2)).flatten
def pz : Option Addr × Nat × List Nat := (none, 0, [])
theorem flat_step (ps : List (Option Addr × Nat × List Nat)) (k : Nat) (h : k < ps.length) : flat (ps.take (k + 1)) = flat (ps.take k) ++ (ps.getD k pz).2.2 := by
  unfold flat
  rw [List.take_succ_eq_append_getElem h, List.map_append, List.flatten_append]
  simp [List.getD, h]
theorem flat_le (ps : List (Option Addr × Nat × List Nat)) (k : Nat) : (flat (ps.take k)).length ≤ (flat ps).length := by
  have h : flat ps = flat (ps.take k) ++ flat (ps.drop k) := by
    unfold flat
    rw [← List.flatten_append, ← List.map_append, List.take_append_drop]
  rw [h, List.length_append]
  omega
def PcAt (w : World) (P : Nat) (ps : List (Option Addr × Nat × List Nat)) : Prop :=
  ∀ k, k < ps.length → ∃ a c l, ps.getD k pz = (a, c, l) ∧ w.cell? ⟨P, k, none⟩ = some (.slice a l.length c) ∧ Row w a l ∧ (a = none → c = 0)
theorem PcAt.below {w w' : World} {P : Nat} {ps : List (Option Addr × Nat × List Nat)} (h : PcAt w P ps) (hb : Below w.heap.size w w') : PcAt w' P ps := by
  intro k hk
  obtain ⟨a, c, l, e, hc, hr, hn⟩ := h k hk
  exact ⟨a, c, l, e, by rw [hb.cell (World.block_lt_of_cell? _ _ hc)]; exact hc, hr.below hb, hn⟩
set_option maxHeartbeats 400000 in
set_option maxRecDepth 100000 in
theorem join_any (P cp : Nat) (ps : List (Option Addr × Nat × List Nat)) (w : World) (h : PcAt w P ps) (hn : ps.length ≤ 10) (hs : (flat ps).length ≤ 1000000) :
    Calls Tryd.prog 106 #[.slice (some ⟨P, 0, none⟩) ps.length cp] w fun e w' => ∃ v, e = .returned v ∧ w'.ownsRow w.heap.size 5 1 v (flat ps).length (cv (flat ps)) ∧ Below w.heap.size w w' := by
  obtain ⟨i0, hi, hz0, hz1, hz2⟩ := info_parts Tryd.info5
  obtain ⟨F, HF⟩ : ∃ F : Nat → List Nat, Hid (∀ k, flat (ps.take k) = F k) := ⟨_, fun _ => rfl⟩
  have HS : Hid (∀ k, k < ps.length → F (k + 1) = F k ++ (ps.getD k pz).2.2) := fun k hk => by rw [← HF.out, ← HF.out]; exact flat_step ps k hk
  have hF0 : F 0 = [] := by rw [← HF.out]; rfl
  have HA : Hid (F ps.length = flat ps) := by show _ = _; rw [← HF.out, List.take_length]
  have hFl : ∀ k, (F k).length ≤ 1000000 := fun k => by rw [← HF.out]; exact Nat.le_trans (flat_le ps k) hs
  rw [← HA.out]
  clear hs
  generalize hN : ps.length = N at *
  have HN : Hid (ps.length = N) := hN
  clear hN
  go_enter Tryd.func106, Tryd.ntmps106
  go_wp2_with fail
  go_loop [3, 10] (fun s i => ∃ k : Nat, k ≤ N ∧ i = .int .i64 k ∧ s = .int .i64 ((F k).length : Nat)) (fun _ i => N - (intOf i).toNat)
  case atStart => exact ⟨0, by omega, rfl, by rw [hF0]; rfl⟩
  case round =>
    obtain ⟨k, hk, rfl, rfl⟩ := hrel
    have hl := hFl k
    by_cases hlt : k < N
    · have hltI : (k : Int) < (N : Int) := by omega
      obtain ⟨a, c, l, e, hc, hr, hn0⟩ := h k (by rw [HN.out]; exact hlt)
      have hF := HS.out k hlt
      rw [e] at hF
      have hl2 := hFl (k + 1)
      have hlen : (F (k + 1)).length = (F k).length + l.length := by rw [hF, List.length_append]
      have HL : Hid ((F (k + 1)).length = (F k).length + l.length) := hlen
      have hl3 : (F k).length + l.length ≤ 1000000 := by omega
      clear h hr hF e hFl hl2 hlen
      go_wp2_with fail
      go_round
      case rel => exact ⟨k + 1, by omega, by go_num, by rw [HL.out]; go_num⟩
      case measure => simp [intOf]; omega
    · obtain rfl : k = N := by omega
      generalize hM : (F k).length = M at *
      have HM : Hid ((F k).length = M) := hM
      clear hM
      have tok : True := trivial
      go_wp2_with (at_make; refine wpList_make_own _ rfl _ _ 29 rfl w.heap.size 5 i0 (.int .u8 0) 1 Tryd.underlying29 hi hz0 hz1 .i64 .i64 _ M rfl rfl rfl (by rw [hz2]; omega) (by unfold maxLen; omega) (Nat.le_refl _) ?_; intro w1 hown hg; have hbel := below_made hg; clear hg)
      have HK : Hid (k ≤ 10) := hn
      go_loopw [2, 23] (fun b i wr => ∃ j : Nat, j ≤ k ∧ i = .int .i64 j ∧ wr.ownsRow w.heap.size 5 1 b (F j).length (cv (F j)) ∧ Below w.heap.size w wr) (fun _ i _ => k - (intOf i).toNat)
      case atStart => exact ⟨0, by omega, rfl, by rw [hF0]; exact hown, hbel⟩
      case round =>
        clear hown hbel
        obtain ⟨j, hj, rfl, hown, hbel⟩ := hrel
        by_cases hlt : j < k
        · have hltI : (j : Int) < (k : Int) := by omega
          obtain ⟨a, c, l, e, hc, hr, hn0⟩ := (h.below hbel) j (by rw [HN.out]; exact hlt)
          have hF := HS.out j hlt
          rw [e] at hF
          have hl2 := hFl (j + 1)
          have HL : Hid (F (j + 1) = F j ++ l) := hF
          have hl3 : (F j).length + l.length ≤ 1000000 := by rw [hF, List.length_append] at hl2; exact hl2
          have HZ : Hid (w.heap.size ≤ wr.heap.size) := hbel.size
          clear h hF e hFl hl2 hl HM
          go_wp2_with (at_builtin; refine wpList_append_row (by rfl) _ _ rfl w.heap.size w _ _ _ rfl hown hbel HZ.out a c l rfl hr hn0 hl3 ?_; intro v' w2 hown2 hbel2)
          refine ⟨⟨j + 1, by omega, by go_num, by rw [HL.out, List.length_append, cv_append]; exact hown2, hbel2⟩, by simp [intOf]; omega⟩
        · obtain rfl : j = k := by omega
          clear h hFl
          go_wp2_with fail
          go_ret
          exact ⟨_, rfl, hown, hbel⟩
/-- The first byte. -/
def headB (hk hv : Bool) : Nat := (if hk then 1 else 0) + (if hv then 2 else 0)
def headN (r : Rc) : Nat := headB r.hk r.hv
theorem head_any (r : Rc) (w : World) : Calls Tryd.prog 107 #[.agg r.cells] w fun e w' => e = .returned (.int .u8 ((headN r : Nat) : Int)) ∧ Below w.heap.size w w' := by
  obtain ⟨hk, k, hv, v, t, o⟩ := r
  simp only [Rc.cells, headN]
  cases hk <;> cases hv
  · have e : (0 : Int) = ((headB false false : Nat) : Int) := by decide
    have HE : Hid _ := e
    clear e
    go_enter Tryd.func107, Tryd.ntmps107
    go_wp2_with fail
    go_ret
    exact ⟨retI HE.out, below_box _⟩
  · have e : bits .or .u8 0 2 = ((headB false true : Nat) : Int) := by decide
    have HE : Hid _ := e
    clear e
    go_enter Tryd.func107, Tryd.ntmps107
    go_wp2_with fail
    go_ret
    exact ⟨retI HE.out, below_box _⟩
  · have e : bits .or .u8 0 1 = ((headB true false : Nat) : Int) := by decide
    have HE : Hid _ := e
    clear e
    go_enter Tryd.func107, Tryd.ntmps107
    go_wp2_with fail
    go_ret
    exact ⟨retI HE.out, below_box _⟩
  · have e : bits .or .u8 (bits .or .u8 0 1) 2 = ((headB true true : Nat) : Int) := by decide
    have HE : Hid _ := e
    clear e
    go_enter Tryd.func107, Tryd.ntmps107
    go_wp2_with fail
    go_ret
    exact ⟨retI HE.out, below_box _⟩
/-- A text's bytes. -/
def sb (s : ByteArray) : List Nat := s.data.toList.map (·.toNat)
theorem sb_len (s : ByteArray) : (sb s).length = s.size := by simp [sb]
theorem sb_lt (s : ByteArray) : ∀ i, (sb s).getD i 0 < 256 := by
  intro i
  unfold sb
  rw [List.getD_eq_getElem?_getD, List.getElem?_map]
  cases s.data.toList[i]? with
  | none => simp
  | some x => simpa using x.toNat_lt
theorem sb_cells (s : ByteArray) (cap : Nat) : bytesRow s cap = (cv (sb s) ++ cv (List.replicate (cap - s.size) 0)).toArray := by
  unfold bytesRow cv sb
  apply Array.ext'
  simp
def textL (there : Bool) (s : ByteArray) : List Nat := if there then groups s.size ++ sb s else []
theorem row_marked (w : World) (l m : List Nat) (fr : Nat × Nat) (h : ∀ i, l.getD i 0 < 256) : Row (w.alloc (.cells (cv l ++ cv m).toArray 5 fr)) (some ⟨w.heap.size, 0, none⟩) l := by
  intro i hi
  refine ⟨w.heap.size, 0, rfl, ?_, h i⟩
  rw [cell_of_row _ w.heap.size (0 + i) (cv l ++ cv m).toArray 5 fr (heap_alloc_new w _)]
  rw [Nat.zero_add, List.getElem?_toArray, List.getElem?_append_left (by rw [cv_length]; exact hi)]
  exact cv_get l i hi
theorem owns_le {B B' : Nat} {w : World} {v : Value} {n : Nat} {xs : List Value} (h : w.ownsRow B 5 1 v n xs) (hb : B' ≤ B) : w.ownsRow B' 5 1 v n xs :=
  ⟨h.1, h.2.elim Or.inl (fun ⟨g, cap, cur, hv, hg, r⟩ => Or.inr ⟨g, cap, cur, hv, Nat.le_trans hb hg, r⟩)⟩
theorem pc_new (W : World) (ps : List (Option Addr × Nat × List Nat)) (vs : List Value) (hv : vs = ps.map fun p => .slice p.1 p.2.2.length p.2.1) (hr : ∀ p, p ∈ ps → Row W p.1 p.2.2 ∧ (p.1 = none → p.2.1 = 0)) : PcAt (W.alloc (.cells vs.toArray 29)) W.heap.size ps := by
  intro k hk
  have hm : ps[k] ∈ ps := List.getElem_mem hk
  obtain ⟨h1, h2⟩ := hr _ hm
  refine ⟨ps[k].1, ps[k].2.1, ps[k].2.2, by simp [List.getD, hk], ?_, h1.below (below_box _), h2⟩
  rw [cell_of_row _ W.heap.size k vs.toArray 29 (0, 0) (heap_alloc_new W _), hv]
  simp [hk]
theorem pc_text {B : Nat} (s : ByteArray) (w1 : World) {g1 c1 : Nat} (own1 : Own B w1 g1 c1 (groups s.size)) (cap : Nat) (fr : Nat × Nat) (hs : s.size ≤ 2000) :
    PcAt (((w1.alloc (.cells (bytesRow s cap) 5 fr)).alloc (.cells #[.slice (some ⟨g1, 0, none⟩) (groups s.size).length c1, .slice (some ⟨w1.heap.size, 0, none⟩) s.size cap] 29)).drew) (w1.heap.size + 1) [(some ⟨g1, 0, none⟩, c1, groups s.size), (some ⟨w1.heap.size, 0, none⟩, cap, sb s)] := by
  have r1 : Row (w1.alloc (.cells (bytesRow s cap) 5 fr)) (some ⟨g1, 0, none⟩) (groups s.size) := (own1.row (groups_lt s.size (by omega))).below (below_box _)
  have r2 : Row (w1.alloc (.cells (bytesRow s cap) 5 fr)) (some ⟨w1.heap.size, 0, none⟩) (sb s) := by
    rw [sb_cells]; exact row_marked w1 (sb s) _ fr (sb_lt s)
  have := pc_new (w1.alloc (.cells (bytesRow s cap) 5 fr)) [(some ⟨g1, 0, none⟩, c1, groups s.size), (some ⟨w1.heap.size, 0, none⟩, cap, sb s)] [.slice (some ⟨g1, 0, none⟩) (groups s.size).length c1, .slice (some ⟨w1.heap.size, 0, none⟩) s.size cap] (by simp [sb_len]) (by
    intro p hp
    simp only [List.mem_cons, List.not_mem_nil, or_false] at hp
    rcases hp with rfl | rfl
    · exact ⟨r1, fun c => by cases c⟩
    · exact ⟨r2, fun c => by cases c⟩)
  rw [show (w1.alloc (.cells (bytesRow s cap) 5 fr)).heap.size = w1.heap.size + 1 by simp] at this
  exact this
set_option maxRecDepth 100000 in
theorem text_any (there : Bool) (s : ByteArray) (w : World) (hs : s.size ≤ 2000) :
    Calls Tryd.prog 110 #[.bool there, .string s] w fun e w' => ∃ v, e = .returned v ∧ w'.ownsRow w.heap.size 5 1 v (textL there s).length (cv (textL there s)) ∧ Below w.heap.size w w' := by
  cases there
  · go_enter Tryd.func110, Tryd.ntmps110
    go_wp2_with fail
    go_ret
    exact ⟨_, rfl, World.ownsRow_nil _ _ _ _, Below.refl _ _⟩
  · have kc := fun w' => run_bytes_of_string (P := Tryd.prog) w' 9 29 5 s Tryd.underlying9 Tryd.underlying29 Tryd.underlying5
    have hsI : (s.size : Int) ≤ 2000 := by omega
    have HG : Hid (1 ≤ (groups s.size).length ∧ (groups s.size).length ≤ 10) := groups_len _
    have HFL : Hid (∀ a c b d, flat [(a, c, groups s.size), (b, d, sb s)] = textL true s) := fun a c b d => by simp [flat, textL]
    have HTL : Hid ((textL true s).length ≤ 1000000) := by
      have := (groups_len s.size).2
      show _ ≤ _
      simp only [textL, if_true, List.length_append, sb_len]
      omega
    go_enter Tryd.func110, Tryd.ntmps110
    go_wp2_with (first
      | (go_at_call 108; refine (varint_any s.size _ (by omega)).mono ?_; rintro e w1 ⟨v1, rfl, hown1, hb1⟩; obtain ⟨g1, c1, rfl, own1⟩ := owns_some hown1 HG.out.1; clear hown1; have HP : Hid _ := fun cap fr => pc_text s w1 own1 cap fr hs)
      | (go_at_call 106; refine (join_any _ 2 _ _ (HP.out _ _) (by simp) (by rw [HFL.out]; exact HTL.out)).mono ?_; rintro e w2 ⟨v2, rfl, hown2, hb2⟩; rw [HFL.out] at hown2))
    go_ret
    have hb : Below w.heap.size w ((w1.alloc (.cells (bytesRow s (grownCap w1 s.size 0 5)) 5 ((bytesRow s (grownCap w1 s.size 0 5)).size, (bytesRow s (grownCap w1 s.size 0 5)).size + 1))).alloc (.cells #[.slice (some ⟨g1, 0, none⟩) (groups s.size).length c1, .slice (some ⟨w1.heap.size, 0, none⟩) s.size (grownCap w1 s.size 0 5)] 29)).drew := ((hb1.alloc hb1.size _).alloc (by have := hb1.size; simp; omega) _).drew
    exact ⟨v2, rfl, owns_le hown2 hb.size, hb.trans (hb2.mono hb.size)⟩
end Go.Proofs.YtaooidckmepdeaaDoor
