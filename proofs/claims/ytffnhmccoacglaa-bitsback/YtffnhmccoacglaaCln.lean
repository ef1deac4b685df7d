/- clone: a copy in new memory, of any bytes, 2000 at most. -/
import Derived.Test.YtffnhmccoacglaaRvar
import Derived.Test.YtffnhmccoacglaaSgn
import Derived.Laws.CopyOwn
namespace Go.Proofs.Ytffnhmccoacglaa
set_option linter.unusedSimpArgs false
set_option linter.unusedVariables false
open Go.RowKit
/-- The bytes lie in a block of the calls own, from B on. -/
def Own (B : Nat) (w : World) (g cap : Nat) (l : List Nat) : Prop := w.ownsRow B 5 1 (.slice (some ⟨g, 0, none⟩) l.length cap) l.length (cv l)
theorem Own.row {B : Nat} {w : World} {g cap : Nat} {l : List Nat} (h : Own B w g cap l) (hb : ∀ i, l.getD i 0 < 256) : Row w (some ⟨g, 0, none⟩) l := by
  obtain ⟨a, c, e, hr, _⟩ := owns_row h hb
  injection e with e1 e2 e3
  rw [e1]; exact hr
theorem Own.ge {B : Nat} {w : World} {g cap : Nat} {l : List Nat} (h : Own B w g cap l) : B ≤ g ∧ g < w.heap.size := World.ownsRow.lt h g rfl
theorem Own.le {B : Nat} {w : World} {g cap : Nat} {l : List Nat} (h : Own B w g cap l) : l.length ≤ cap ∧ cap ≤ maxLen := by
  rcases h.2 with ⟨e, _⟩ | ⟨g', cap', cur, e, _, _, hle, hm, _, _⟩
  · cases e
  · injection e with e1 e2 e3; subst e3; exact ⟨hle, hm⟩
theorem Own.cell {B : Nat} {w : World} {g cap : Nat} {l : List Nat} (h : Own B w g cap l) (i : Nat) (hi : i < l.length) : w.cell? ⟨g, i, none⟩ = some (.int .u8 ((l.getD i 0 : Nat) : Int)) := by
  rw [World.ownsRow.cellAt h i (by omega)]; exact cv_get l i hi
theorem Own.free {B : Nat} {w : World} {g cap : Nat} {l : List Nat} (h : Own B w g cap l) (i : Nat) : w.frozen? ⟨g, i, none⟩ = false := World.ownsRow.frozenAt h i
theorem cv_set (l : List Nat) (i c : Nat) : cv (l.set i c) = (cv l).set i (.int .u8 ((c : Nat) : Int)) := by simp [cv, List.map_set]
theorem Own.store {B : Nat} {w : World} {g cap : Nat} {l : List Nat} (h : Own B w g cap l) (i c : Nat) : Own B (w.setCell ⟨g, i, none⟩ (.int .u8 ((c : Nat) : Int))) g cap (l.set i c) := by
  have := World.ownsRow.stored h i (.int .u8 ((c : Nat) : Int))
  unfold Own
  rw [cv_set, List.length_set]
  exact this.1
theorem Own.below {B : Nat} {w w' : World} {g cap : Nat} {l : List Nat} (h : Own B w g cap l) (hb : Below w.heap.size w w') : Own B w' g cap l :=
  World.ownsRow.kept (row := none) h ⟨hb.os, hb.tape, hb.output, hb.size, fun k hk _ => hb.block k hk⟩ (Or.inr (by simp [Value.ownBlock]))
theorem Own.drewN {B : Nat} {w : World} {g cap : Nat} {l : List Nat} (h : Own B w g cap l) (n : Nat) : Own B (w.drewN n) g cap l := h
theorem own_of {B : Nat} {w : World} {g n : Nat} {cs : List Value} {l : List Nat} (hB : B ≤ g) (hn : n = l.length) (hm : n ≤ maxLen) (hc : cs = cv l) (h : w.heap[g]? = some (.cells cs.toArray 5 (0, 0))) : Own B w g n l := by
  subst hc; subst hn
  exact ⟨by simp [cv], .inr ⟨g, l.length, (cv l).toArray, rfl, hB, h, Nat.le_refl _, hm, by simp [cv], List.take_of_length_le (by simp [cv])⟩⟩
theorem below_made {w w1 : World} (hg : w.grownBy w1 none) : Below w.heap.size w w1 := (Below.refl w.heap.size w).grown hg (Nat.le_refl _) (fun k hk => by cases hk)
theorem made_blk {B g n : Nat} {w1 : World} {xs : List Value} (h : w1.ownsRow B 5 1 (.slice (some ⟨g, 0, none⟩) n n) n xs) : ∃ cur : List Value, w1.heap[g]? = some (.cells cur.toArray 5 (0, 0)) ∧ cur.length = n := by
  rcases h.2 with ⟨e, _⟩ | ⟨g', cap', cur, e, _, hg, _, _, hcs, _⟩
  · cases e
  · injection e with e1 e2 e3
    injection e1 with e1
    injection e1 with e1
    subst e1; subst e3
    exact ⟨cur.toList, by simpa using hg, by simpa using hcs⟩
theorem row_src {w : World} {a : Option Addr} {l : List Nat} (h : Row w a l) (h0 : 0 < (cv l).length) : ∃ ad, a = some ad ∧ ∀ j v, (cv l)[j]? = some v → w.cell? (ad.add j) = some v := by
  rw [cv_length] at h0
  obtain ⟨b, off, rfl, _, _⟩ := h 0 h0
  refine ⟨_, rfl, fun j v hj => ?_⟩
  have hjl : j < l.length := by
    have := (List.getElem?_eq_some_iff.1 hj).1
    rwa [cv_length] at this
  obtain ⟨b', off', e, hc, _⟩ := h j hjl
  simp only [Option.some.injEq, Addr.mk.injEq, and_true] at e
  obtain ⟨rfl, rfl⟩ := e
  rw [cv_get l j hjl] at hj
  rw [Addr.add_lit, hc, hj]
theorem splice_all (cur cs : List Value) (h : cur.length = cs.length) : splice cur 0 cs = cs := by
  unfold splice
  rw [List.drop_eq_nil_of_le (by omega)]
  simp
set_option maxRecDepth 100000 in
theorem clone_any (a : Option Addr) (cap : Nat) (l : List Nat) (w : World) (hr : Row w a l) (hl : l.length ≤ 2000) :
    Calls Try.prog 45 #[.slice a l.length cap] w fun e w' => (∃ g, e = .returned (.slice (some ⟨g, 0, none⟩) l.length l.length) ∧ Own w.heap.size w' g l.length l) ∧ Below w.heap.size w w' := by
  obtain ⟨i0, hi, hz0, hz1, hz2⟩ := info_parts Try.info5
  have hs1 : (Try.prog.info? 5).map (·.size) = some 1 := by rw [hi]; simp [hz1]
  obtain ⟨n, HN⟩ : ∃ n, Hid (l.length = n) := ⟨_, rfl⟩
  have hn : n ≤ 2000 := by rw [← HN.out]; exact hl
  have HC : Hid ((cv l).length = n) := by show _ = _; rw [cv_length, HN.out]
  rw [HN.out]
  go_enter Try.func45, Try.ntmps45
  go_wp2_with (first
    | (at_make; refine wpList_make_full _ rfl _ _ 22 rfl w.heap.size 5 i0 (.int .u8 0) 1 Try.underlying22 hi hz0 hz1 .i64 .i64 _ _ n rfl rfl rfl rfl (by rw [hz2]; omega) (by unfold maxLen; omega) (Nat.le_refl _) ?_; intro w1 hown hg; obtain ⟨cur, hcur, hlen⟩ := made_blk hown; have hbel := below_made hg; have HR1 := hr.below hbel; have HLn : Hid (cur.length = n) := hlen; clear hlen hown hg hr)
    | (have _t := hcur; refine wpList_copy_splice rfl (.tmp 7) (.tmp 8) 22 22 rfl 5 Try.underlying22 hs1 _ _ _ _ _ _ rfl rfl w.heap.size 0 cur 5 hcur (cv l) (by rw [HC.out]; exact (Nat.min_self n).symm) (fun h0 => ⟨rfl, row_src HR1 h0⟩) (by rw [HC.out, HLn.out]; omega) (cv_one _) w.heap.size w hbel (Nat.le_refl _) ?_; intro w2 HG2 hB2))
  go_ret
  refine ⟨⟨w.heap.size, rfl, ?_⟩, by assumption⟩
  have HG : Hid _ := HG2
  have h2 := HG2.out
  rw [splice_all _ _ (by rw [HC.out, HLn.out])] at h2
  have := own_of (Nat.le_refl _) HN.out.symm (by unfold maxLen; omega) rfl h2
  exact this
end Go.Proofs.Ytffnhmccoacglaa
