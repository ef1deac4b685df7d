/- Batches stored into a row of the call's own. -/
import Derived.Test.YtnnljdnaipjoiaaFr
import Derived.Deep.MidRow
import Derived.Deep.Upon
namespace Go.Proofs.Ytnnljdnaipjoiaa
set_option linter.unusedSimpArgs false
set_option linter.unusedVariables false
open Go.RowKit
theorem Try.info61s : (Try.prog.info? 61).map (·.size) = some 5 := by kernel_rfl
theorem all5 (a b c d : Int) (x : Option Addr) (n m : Nat) : (#[.int .i64 a, .int .i64 b, .int .i64 c, .int .i64 d, .slice x n m] : Array Value).all (·.oneCell') = true := by simp [Value.oneCell']
theorem all_bs (s : Bs) : s.cells.all (·.oneCell') = true := all5 _ _ _ _ _ _ _
theorem all_bs2 (s : Bs) : s.cells.toList.toArray.all (·.oneCell') = true := by rw [Array.toArray_toList]; exact all_bs s
theorem bc_range {y : World} {g : Nat} {ss : List Bs} (h : BCells y (some ⟨g, 0, none⟩) ss) (i : Nat) (hi : i < ss.length) : y.rangeAt g (i * 5) (ss.getD i bsz).cells.toList := by
  intro j v hv
  have hj : j < 5 := (List.getElem?_eq_some_iff.1 hv).1
  have h1 : (bcv ss)[i * 5 + j]? = some v := by rw [bcv_get ss i j hi hj]; simpa using hv
  have := brow_news h (i * 5 + j) v h1
  rw [Addr.add_lit, Nat.zero_add] at this
  exact this
theorem range_bc {y : World} {g : Nat} {ss : List Bs} (h : ∀ i, i < ss.length → y.rangeAt g (i * 5) (ss.getD i bsz).cells.toList) : BCells y (some ⟨g, 0, none⟩) ss := fun i hi =>
  ⟨g, 0, rfl, by rw [Nat.zero_add]; exact h i hi 0 _ rfl, by rw [Nat.zero_add]; exact h i hi 1 _ rfl, by rw [Nat.zero_add]; exact h i hi 2 _ rfl, by rw [Nat.zero_add]; exact h i hi 3 _ rfl, by rw [Nat.zero_add]; exact h i hi 4 _ rfl⟩
theorem bc_there {y : World} {B g c n : Nat} {ss : List Bs} (h : LRow y B g c n ss) (i : Nat) (hi : i < n) : y.there g (i * 5) 5 := fun j hj => by
  have hl := h.row.len
  obtain ⟨_, _, cs, hb⟩ := h.blk
  exact ⟨(bc_range h.cells i (by omega)).isSome j hj, frozen_cells hb⟩
theorem grown_setCell (w : World) (b o : Nat) (v : Value) : w.grownBy (w.setCell ⟨b, o, none⟩ v) (some b) :=
  ⟨rfl, rfl, rfl, by simp [World.setCell], fun k hk hn => by
    have hne : b ≠ k := fun e => hn (by rw [e])
    simp [World.setCell, Array.getElem?_modify, hne]⟩
theorem grown_setCells (b : Nat) : ∀ (vs : List Value) (o : Nat) (w : World), w.grownBy (w.setCells b o vs) (some b)
  | [], _, w => ⟨rfl, rfl, rfl, Nat.le_refl _, fun _ _ _ => rfl⟩
  | v :: r, o, w => grown_trans (grown_setCell w b o v) (grown_setCells b r (o + 1) _)
theorem getD_set (ss : List Bs) (i j : Nat) (s : Bs) (hi : i < ss.length) : (ss.set i s).getD j bsz = if j = i then s else ss.getD j bsz := by
  simp only [List.getD_eq_getElem?_getD, List.getElem?_set]
  by_cases e : i = j
  · subst e; simp [hi]
  · have : ¬ j = i := fun q => e q.symm
    simp [e, this]
theorem bc_set {y : World} {g : Nat} {ss : List Bs} (h : BCells y (some ⟨g, 0, none⟩) ss) (i : Nat) (ht : y.there g (i * 5) 5) (hi : i < ss.length) (s : Bs) : BCells (y.setCells g (i * 5) s.cells.toList) (some ⟨g, 0, none⟩) (ss.set i s) := by
  refine range_bc fun j hj => ?_
  rw [List.length_set] at hj
  rw [getD_set ss i j s hi]
  by_cases e : j = i
  · subst e
    rw [if_pos rfl]
    exact World.rangeAt_setCells_same _ _ _ _ ht
  · rw [if_neg e]
    refine World.rangeAt_setCells_apart (bc_range h j hj) _ _ _ (.inr ?_)
    rw [bcells_len, bcells_len]
    omega
/-- One record, in a block of its own. -/
def Eb (y : World) (s : Bs) : Prop := BOk s.b ∧ ∃ g' r, s.a = some ⟨g', 0, none⟩ ∧ s.b.rs = [r] ∧ y.heap[g']? = some (.cells r.cells 48 (0, 0))
theorem eb_row {y : World} {n : Nat} {ss : List Bs} (h : FRow y n ss) (hn : n ≤ 30) : ∀ i, i < ss.length → Eb y (ss.getD i bsz) := fun i hi => by
  rw [h.len] at hi
  obtain ⟨h1, g, h2, h3, h4⟩ := h.each i hi
  refine ⟨by rw [h1]; exact fb_ok i (by omega), g, frc i, h2, by rw [h1]; rfl, h4⟩
theorem eb_set {y : World} {ss : List Bs} (h : ∀ i, i < ss.length → Eb y (ss.getD i bsz)) (k : Nat) (hk : k < ss.length) {s : Bs} (hs : Eb y s) : ∀ i, i < (ss.set k s).length → Eb y ((ss.set k s).getD i bsz) := fun i hi => by
  rw [List.length_set] at hi
  rw [getD_set ss k i s hk]
  by_cases e : i = k
  · rw [if_pos e]; exact hs
  · rw [if_neg e]; exact h i hi
theorem turned_inn {y X : World} {B g c n : Nat} {ss ss' : List Bs} (hl : LRow y B g c n ss) (hX : y.grownBy X (some g)) (hc : BCells X (some ⟨g, 0, none⟩) ss') (hn : ss'.length ≤ 30) (he : ∀ i, i < ss'.length → Eb y (ss'.getD i bsz)) : BIn X (some ⟨g, 0, none⟩) ss' := by
  obtain ⟨_, _, cs, hb⟩ := hl.blk
  refine ⟨hc, fun i hi => ?_, fun i hi => (he i hi).1, by unfold maxLen; omega⟩
  obtain ⟨_, g', r, h2, h3, h4⟩ := he i hi
  rw [h2, h3]
  refine ⟨rrow_blk ((hX.block g' (Array.getElem?_eq_some_iff.1 h4).1 (fun e => ?_)).trans h4), one_max⟩
  injection e with e
  subst e
  rw [hb] at h4
  simp at h4
theorem awk_turned {B g : Nat} {w0 y X : World} {p : Nat} {S : LS} (h : AwK B w0 p S y) (hX : y.grownBy X (some g)) (hB : B ≤ g) (hb : ∃ cs : Array Value, y.heap[g]? = some (.cells cs 61 (0, 0))) : AwK B w0 p S X := by
  obtain ⟨cs, hb⟩ := hb
  exact h.grown hX fun b e => by
    injection e with e
    subst e
    exact ⟨hB, cs, 61, hb, by decide⟩
theorem bs_swap {y : World} {n : Nat} {ss : List Bs} (h : FRow y n ss) (hn : 2 ≤ n) : bsOf ((ss.set 0 (ss.getD 1 bsz)).set 1 (ss.getD 0 bsz)) = fswap n := by
  unfold fswap bsOf
  rw [List.map_set, List.map_set, (h.each 1 (by omega)).1, (h.each 0 (by omega)).1]
  have := h.bs
  unfold bsOf at this
  rw [this]
/-- The first two told the other way round. -/
theorem swap_saw {B B' g c n : Nat} {w0 y : World} {p : Nat} {S : LS} {ss : List Bs} (hk : AwK B w0 p S y) (hl : LRow y B' g c n ss) (hn : 2 ≤ n) (h30 : n ≤ 30) (hB : B ≤ g) (code : Int) (hc : (saw S ft 0 n 0 (fswap n)).1 = code) :
    Calls Try.prog 11 #[.pointer (some ⟨p, 0, none⟩), .string ⟨#[116]⟩, .int .i64 1, .int .i64 0, .int .i64 (n : Int), .int .i64 0, .slice (some ⟨g, 0, none⟩) n c] ((y.setCells g 0 (ss.getD 1 bsz).cells.toList).setCells g 5 (ss.getD 0 bsz).cells.toList) fun e z => e = .returned (.int .i64 code) ∧ Below B w0 z := by
  have hlen := hl.row.len
  have hg : y.grownBy ((y.setCells g 0 (ss.getD 1 bsz).cells.toList).setCells g 5 (ss.getD 0 bsz).cells.toList) (some g) := grown_trans (grown_setCells _ _ _ _) (grown_setCells _ _ _ _)
  have he := eb_row hl.row h30
  have hc1 := bc_set hl.cells 0 (bc_there hl 0 (by omega)) (by omega) (ss.getD 1 bsz)
  have hc2 := bc_set hc1 1 (World.there_setCells (bc_there hl 1 (by omega)) _ _ _) (by rw [List.length_set]; omega) (ss.getD 0 bsz)
  have hin := turned_inn hl hg hc2 (by rw [List.length_set, List.length_set]; omega) (eb_set (eb_set he 0 (by omega) (he 1 (by omega))) 1 (by rw [List.length_set]; omega) (he 0 (by omega)))
  exact (step_saw (awk_turned hk hg hB hl.blk.2.2) hin (by rw [List.length_set, List.length_set]; exact hlen) (bs_swap hl.row hn) 0 n 0 code hc).mono fun e z ⟨q1, q2, q3⟩ => ⟨q1, q2.bel⟩
/-- What the turned row's cells are. -/
structure SwC (y : World) (g : Nat) (c0 c1 : List Value) : Prop where
  r0 : y.rangeAt g 0 c0
  r1 : y.rangeAt g 5 c1
  t0 : y.there g 0 5
  t1 : ∀ vs, (y.setCells g 0 vs).there g 5 5
theorem swc_of {y : World} {B g c n : Nat} {ss : List Bs} (hl : LRow y B g c n ss) (hn : 2 ≤ n) : SwC y g (ss.getD 0 bsz).cells.toList (ss.getD 1 bsz).cells.toList :=
  ⟨bc_range hl.cells 0 (by rw [hl.row.len]; omega), bc_range hl.cells 1 (by rw [hl.row.len]; omega), bc_there hl 0 (by omega), fun vs => World.there_setCells (bc_there hl 1 (by omega)) _ _ _⟩
theorem oth_ok : BOk (ob 1 fother.other') := ⟨by simp [ob], by simp [ob], by simp [ob], by simp [ob], fun r hr => by
  simp only [ob, List.mem_singleton] at hr
  subst hr
  exact ⟨by simp, by simp [ob], (by show (⟨#[]⟩ : ByteArray).size ≤ 20000; decide), (by decide)⟩⟩
/-- Another record at an offset. -/
theorem other_saw {B B' g c n g' : Nat} {w0 y : World} {p : Nat} {S : LS} {ss : List Bs} (hk : AwK B w0 p S y) (hl : LRow y B' g c n ss) (hn : 2 ≤ n) (h30 : n ≤ 30) (hB : B ≤ g) (hr : y.heap[g']? = some (.cells (Rc.mk false ⟨#[]⟩ true fother.other' 0 0).cells 48 (0, 0))) (code : Int) (hc : (saw S ft 0 n 0 (fother n)).1 = code) :
    Calls Try.prog 11 #[.pointer (some ⟨p, 0, none⟩), .string ⟨#[116]⟩, .int .i64 1, .int .i64 0, .int .i64 (n : Int), .int .i64 0, .slice (some ⟨g, 0, none⟩) n c] (y.setCells g 5 [.int .i64 1, .int .i64 1, .int .i64 0, .int .i64 0, .slice (some ⟨g', 0, none⟩) 1 1]) fun e z => e = .returned (.int .i64 code) ∧ Below B w0 z := by
  have hlen := hl.row.len
  have hg : y.grownBy (y.setCells g 5 [.int .i64 1, .int .i64 1, .int .i64 0, .int .i64 0, .slice (some ⟨g', 0, none⟩) 1 1]) (some g) := grown_setCells _ _ _ _
  have he := eb_row hl.row h30
  have hc1 := bc_set hl.cells 1 (bc_there hl 1 (by omega)) (by omega) (Bs.mk (ob 1 fother.other') (some ⟨g', 0, none⟩) 1)
  have hin := turned_inn hl hg hc1 (by rw [List.length_set]; omega) (eb_set he 1 (by omega) ⟨oth_ok, g', _, rfl, rfl, hr⟩)
  refine (step_saw (awk_turned hk hg hB hl.blk.2.2) hin (by rw [List.length_set]; exact hlen) (L := fother n) ?_ 0 n 0 code hc).mono fun e z ⟨q1, q2, q3⟩ => ⟨q1, q2.bel⟩
  have := hl.row.bs
  unfold bsOf at this
  unfold fother bsOf
  rw [List.map_set, this]
/-- A batch told anew elsewhere. -/
theorem z_saw {B n g' : Nat} {w0 y : World} {p : Nat} {S : LS} (hk : AwK B w0 p S y) (h30 : n ≤ 30) (hr : y.heap[g']? = some (.cells (Rc.mk false ⟨#[]⟩ true ⟨#[122]⟩ 0 0).cells 48 (0, 0))) (code : Int) (hc : (saw S ft 0 ((n : Int) + 1) n [fz n]).1 = code) :
    Calls Try.prog 11 #[.pointer (some ⟨p, 0, none⟩), .string ⟨#[116]⟩, .int .i64 1, .int .i64 0, .int .i64 ((n : Int) + 1), .int .i64 (n : Int), .slice (some ⟨y.heap.size + 1, 0, none⟩) 1 1] ((y.alloc (.cells #[.int .i64 n, .int .i64 1, .int .i64 5, .int .i64 0, .slice (some ⟨g', 0, none⟩) 1 1] 61)).alloc (.cells #[.int .i64 n, .int .i64 1, .int .i64 5, .int .i64 0, .slice (some ⟨g', 0, none⟩) 1 1] 61)) fun e z => e = .returned (.int .i64 code) ∧ AwK B w0 p (saw S ft 0 ((n : Int) + 1) n [fz n]).2 z ∧ TKeep y z := by
  have hb : Below y.heap.size y ((y.alloc (.cells #[.int .i64 n, .int .i64 1, .int .i64 5, .int .i64 0, .slice (some ⟨g', 0, none⟩) 1 1] 61)).alloc (.cells #[.int .i64 n, .int .i64 1, .int .i64 5, .int .i64 0, .slice (some ⟨g', 0, none⟩) 1 1] 61)) := (below_box _).trans ((below_box _).mono (by simp))
  have hc2 := brow_new (y.alloc (.cells #[.int .i64 n, .int .i64 1, .int .i64 5, .int .i64 0, .slice (some ⟨g', 0, none⟩) 1 1] 61)) (Bs.mk (fz n) (some ⟨g', 0, none⟩) 1)
  rw [show (y.alloc (.cells #[.int .i64 n, .int .i64 1, .int .i64 5, .int .i64 0, .slice (some ⟨g', 0, none⟩) 1 1] 61)).heap.size = y.heap.size + 1 by simp] at hc2
  have hin : BIn ((y.alloc (.cells #[.int .i64 n, .int .i64 1, .int .i64 5, .int .i64 0, .slice (some ⟨g', 0, none⟩) 1 1] 61)).alloc (.cells #[.int .i64 n, .int .i64 1, .int .i64 5, .int .i64 0, .slice (some ⟨g', 0, none⟩) 1 1] 61)) (some ⟨y.heap.size + 1, 0, none⟩) [Bs.mk (fz n) (some ⟨g', 0, none⟩) 1] := ⟨hc2, fun i hi => by
    obtain rfl : i = 0 := by simpa using hi
    exact ⟨rrow_blk ((hb.block g' (Array.getElem?_eq_some_iff.1 hr).1).trans hr), one_max⟩, fun i hi => by
    obtain rfl : i = 0 := by simpa using hi
    exact fz_ok n h30, by unfold maxLen; simp⟩
  exact (step_saw (hk.below hb) hin rfl rfl 0 ((n : Int) + 1) n code hc).mono fun e z ⟨q1, q2, q3⟩ => ⟨q1, q2, fun b cs t h1 h2 => q3 b cs t ((hb.block b (Array.getElem?_eq_some_iff.1 h1).1).trans h1) h2⟩
end Go.Proofs.Ytnnljdnaipjoiaa
