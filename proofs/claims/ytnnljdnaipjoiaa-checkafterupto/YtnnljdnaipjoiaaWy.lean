/- CheckAfter: the walk. -/
import Derived.Test.YtnnljdnaipjoiaaGn
import Derived.Test.YtnnljdnaipjoiaaLat
import Derived.Deep.DeepCutAuto
import Derived.Deep.CutRange
namespace Go.Proofs.Ytnnljdnaipjoiaa
set_option linter.unusedSimpArgs false
set_option linter.unusedVariables false
open Go.RowKit
/-- What stays: what was there, and the box of the step. -/
def Aft (w : World) (cs : Array Value) (y : World) : Prop := Below w.heap.size w y ∧ y.heap[w.heap.size]? = some (.cells cs 35 (0, 0))
theorem Aft.below {w y z : World} {cs : Array Value} (h : Aft w cs y) (hb : Below y.heap.size y z) : Aft w cs z := ⟨h.1.trans (hb.mono h.1.size), (hb.block _ (Array.getElem?_eq_some_iff.1 h.2).1).trans h.2⟩
theorem Aft.grown {w y z : World} {cs : Array Value} {r : Option Nat} (h : Aft w cs y) (hg : y.grownBy z r) (hr : ∀ x, r = some x → w.heap.size + 1 ≤ x) : Aft w cs z := by
  have hlt := (Array.getElem?_eq_some_iff.1 h.2).1
  exact ⟨h.1.grown hg h.1.size (fun k hk => by have := hr k hk; omega), (hg.block _ hlt (fun e => by have := hr _ e.symm; omega)).trans h.2⟩
theorem bel_drew' {B : Nat} {a w : World} (h : Below B a w) : Below B a w.drew := ⟨h.os, h.tape, h.output, h.size, h.block⟩
theorem own_keep {B B' e size n : Nat} {w w' : World} {v : Value} {xs : List Value} (h : w.ownsRow B e size v n xs) (hb : Below w.heap.size w w') (hB : B' ≤ B) : w'.ownsRow B' e size v n xs := by
  refine ⟨h.1, ?_⟩
  rcases h.2 with q | ⟨g, cap, cur, e1, hB1, hg, r⟩
  · exact .inl q
  · exact .inr ⟨g, cap, cur, e1, Nat.le_trans hB hB1, (hb.block g (Array.getElem?_eq_some_iff.1 hg).1).trans hg, r⟩
theorem one_step {y : World} {g : Nat} {s : Sp} (h : y.heap[g]? = some (.cells s.cells 35 (0, 0))) : SCells y (some ⟨g, 0, none⟩) [s] := by
  intro i hi
  obtain rfl : i = 0 := by simpa using hi
  exact ⟨g, 0, rfl, cell_of_row _ _ 0 _ _ _ h, cell_of_row _ _ 1 _ _ _ h, cell_of_row _ _ 2 _ _ _ h, cell_of_row _ _ 3 _ _ _ h, cell_of_row _ _ 4 _ _ _ h, cell_of_row _ _ 5 _ _ _ h⟩
theorem empty_own {B : Nat} (y : World) (hB : B ≤ y.heap.size) : (y.alloc (.cells #[] 35)).ownsRow B 35 6 (.slice (some ⟨y.heap.size, 0, none⟩) 0 0) ([] : List Sp).length (rowv cQ []) := ⟨rfl, .inr ⟨y.heap.size, 0, #[], rfl, hB, heap_alloc_new y _, Nat.le_refl _, by unfold maxLen; omega, rfl, rfl⟩⟩
theorem snoc_up {w y : World} {a a' : Option Addr} {l : List Sp} {s : Sp} (hb : Below w.heap.size w y) (hl : SsUp w a l) (hs : SpUp w s) (hn : l.length + 1 ≤ big) (hc : SCells y a' (l ++ [s])) : SsUp y a' (l ++ [s]) := by
  refine ⟨hc, by simpa using hn, fun i hi => ?_⟩
  by_cases e : i < l.length
  · have h : (l ++ [s]).getD i spz = l.getD i spz := by simp [List.getD, List.getElem?_append, e]
    rw [h]
    exact ((hl.below hb).each i e)
  · have hi2 : i = l.length := by simp at hi; omega
    subst hi2
    have h : (l ++ [s]).getD l.length spz = s := by simp [List.getD]
    rw [h]
    exact hs.below hb
def SixC (y : World) (b : Nat) (tp : ByteArray) (pt st nx fr : Int) (a : Option Addr) (n c : Nat) : Prop := y.cell? ⟨b, 0, none⟩ = some (.string tp) ∧ y.cell? ⟨b, 1, none⟩ = some (.int .i64 pt) ∧ y.cell? ⟨b, 2, none⟩ = some (.int .i64 st) ∧ y.cell? ⟨b, 3, none⟩ = some (.int .i64 nx) ∧ y.cell? ⟨b, 4, none⟩ = some (.int .i64 fr) ∧ y.cell? ⟨b, 5, none⟩ = some (.slice a n c)
theorem SixC.ck {y z : World} {b : Nat} {tp : ByteArray} {pt st nx fr : Int} {a : Option Addr} {n c : Nat} (h : SixC y b tp pt st nx fr a n c) (k : CKeep y z) : SixC z b tp pt st nx fr a n c :=
  ⟨k _ _ _ h.1 (fun m e => by cases e), k _ _ _ h.2.1 (fun m e => by cases e), k _ _ _ h.2.2.1 (fun m e => by cases e), k _ _ _ h.2.2.2.1 (fun m e => by cases e), k _ _ _ h.2.2.2.2.1 (fun m e => by cases e), k _ _ _ h.2.2.2.2.2 (fun m e => by cases e)⟩
theorem SixC.below {y z : World} {b : Nat} {tp : ByteArray} {pt st nx fr : Int} {a : Option Addr} {n c : Nat} (h : SixC y b tp pt st nx fr a n c) (hb : Below y.heap.size y z) : SixC z b tp pt st nx fr a n c := by
  obtain ⟨h0, h1, h2, h3, h4, h5⟩ := h
  exact ⟨(hb.cell (World.block_lt_of_cell? _ _ h0)).trans h0, (hb.cell (World.block_lt_of_cell? _ _ h1)).trans h1, (hb.cell (World.block_lt_of_cell? _ _ h2)).trans h2, (hb.cell (World.block_lt_of_cell? _ _ h3)).trans h3, (hb.cell (World.block_lt_of_cell? _ _ h4)).trans h4, (hb.cell (World.block_lt_of_cell? _ _ h5)).trans h5⟩
theorem SixC.of {y : World} {b : Nat} {tp : ByteArray} {pt st nx fr : Int} {a : Option Addr} {n c : Nat} (h : y.heap[b]? = some (.cells #[.string tp, .int .i64 pt, .int .i64 st, .int .i64 nx, .int .i64 fr, .slice a n c] 35 (0, 0))) : SixC y b tp pt st nx fr a n c := six_cells' h
theorem take_get (l : List Sp) (n i : Nat) (h : i < n) : (l.take n).getD i spz = l.getD i spz := by
  simp only [List.getD]
  rw [List.getElem?_take_of_lt h]
theorem SsUp.take {w : World} {a : Option Addr} {l : List Sp} (h : SsUp w a l) (n : Nat) : SsUp w a (l.take n) := by
  have hlen : ∀ i, i < (l.take n).length → i < n ∧ i < l.length := fun i hi => by rw [List.length_take] at hi; omega
  refine ⟨fun i hi => ?_, by have := h.len; rw [List.length_take]; omega, fun i hi => ?_⟩
  · obtain ⟨q1, q2⟩ := hlen i hi
    rw [take_get l n i q1]
    exact h.cells i q2
  · obtain ⟨q1, q2⟩ := hlen i hi
    rw [take_get l n i q1]
    exact h.each i q2
/-- What a refused fetch leaves. -/
theorem saw_no {S : LS} {p : PK} {st nx fr : Int} {bs : List Ba} (h : (saw S p st nx fr bs).1 ≠ 0) : (saw S p st nx fr bs).2 = S := by
  unfold saw at h ⊢
  split
  · rfl
  · split
    · rfl
    · split
      · rfl
      · split
        · rfl
        · rename_i h1 h2 _ _ h3 _ _ h4
          rw [if_neg h1, if_neg h2] at h
          simp [h3, h4] at h
theorem small_parts {l0 : List Sp} {s : Sp} (h : SmallC (l0 ++ [s])) : (∀ i, i < l0.length → StepOk (l0.getD i spz)) ∧ StepOk s ∧ ∀ k, costL (l0.take k) + costS s ≤ 400 := by
  refine ⟨fun i hi => ?_, ?_, fun k => ?_⟩
  · have h1 := h.ok i (by simp; omega)
    rwa [show (l0 ++ [s]).getD i spz = l0.getD i spz by simp [List.getD, List.getElem?_append, hi]] at h1
  · have h1 := h.ok l0.length (by simp)
    rwa [show (l0 ++ [s]).getD l0.length spz = s by simp [List.getD]] at h1
  · have h1 := h.cost
    have h2 := costL_le l0 k
    have h3 : costL (l0 ++ [s]) = costL l0 + costS s := by unfold costL; simp
    omega
theorem steps_len {H : Type} {enc : TypeId × Value → H} {W : World} {base fuel : Nat} {sp : Nat → Bool} {held : Bool} {a0 : Option Addr} {L cap0 : Nat} {x : DataW H × List MemPlace}
    (h : DataW.trod enc Try.prog W base sp held fuel 22 [.slice a0 L cap0] = some x) : L ≤ Rows.uptoBulk x.1 := by
  rcases Go.Deep.open_slice Try.underlying22 h with ⟨hcs, _⟩ | ⟨ad, len, cap, m, n, D, Pl, hcs, _, hl, hm, hmm, hd, hx⟩
  · simp at hcs
    obtain ⟨rfl, rfl, rfl⟩ := hcs
    omega
  · simp at hcs
    obtain ⟨rfl, rfl, rfl⟩ := hcs
    have hbs := (bulk_slice ((List.range L).map D) ((List.range (m - L)).map fun i => D (L + i))).1
    rw [hd]
    simp only [List.length_map, List.length_range] at hbs
    exact Nat.le_trans hbs (by first | exact Nat.le_refl _ | simp [Rows.uptoBulk])
theorem small_snoc (a : Option Addr) (c : Nat) (l0 : List Sp) (s : Sp) (a0 : Option Addr) (w y : World) (hu : SsUp w a0 l0) (hs : SpUp w s) (hlb : l0.length + 1 ≤ big) (h : SCells y a (l0 ++ [s])) (hb : Below w.heap.size w y) :
    Calls Try.prog 8 #[.slice a (l0.length + 1) c] y fun e z => IsT (SmallC (l0 ++ [s])) e ∧ Below y.heap.size y z := by
  have h1 := snoc_up hb hu hs hlb h
  have h2 := small_cost a c (l0 ++ [s]) y h1
  rw [show (l0 ++ [s]).length = l0.length + 1 by simp] at h2
  exact h2
set_option maxHeartbeats 8000000 in
set_option maxRecDepth 100000 in
theorem checkAfter_walk (a0 : Option Addr) (cap0 : Nat) (l0 : List Sp) (s1 : Sp) (w : World) (hu : SsUp w a0 l0) (hlc : l0.length ≤ cap0) (hcm : cap0 ≤ maxLen) (hn0 : a0 = none → cap0 = 0) (hs : SpUp w s1) (hlb : l0.length + 1 ≤ big) :
    Calls Try.prog 7 #[.slice a0 l0.length cap0, spv s1] w fun e w' => e = .returned (.bool true) ∧ Below w.heap.size w w' := by
  have hl := hu.len
  unfold big at hl
  obtain ⟨bt, bp, bs, bn, bf, bss, ba, bc⟩ := s1
  have HU : Hid (∀ y, Below w.heap.size w y → SsUp y a0 l0) := fun y hb => hu.below hb
  have HSU : Hid (∀ y, Below w.heap.size w y → SpUp y ⟨bt, bp, bs, bn, bf, bss, ba, bc⟩) := fun y hb => hs.below hb
  have HLB : Hid (l0.length + 1 ≤ big) := hlb
  have HN0 : Hid (a0 = none → cap0 = 0) := hn0
  have HAWK : Hid (∀ y, Below w.heap.size w y → Calls Try.prog 9 #[] y fun e w' => e = .returned (.bool true) ∧ Below w.heap.size w w') := fun y hb => (awake_any y).mono fun e z ⟨h1, h2⟩ => ⟨h1, hb.trans (h2.mono hb.size)⟩
  have HAF : Hid (Aft w #[.string bt, .int .i64 bp, .int .i64 bs, .int .i64 bn, .int .i64 bf, .slice ba bss.length bc] (w.alloc (.cells #[.string bt, .int .i64 bp, .int .i64 bs, .int .i64 bn, .int .i64 bf, .slice ba bss.length bc] 35)) ∧ w.heap.size + 1 ≤ (w.alloc (.cells #[.string bt, .int .i64 bp, .int .i64 bs, .int .i64 bn, .int .i64 bf, .slice ba bss.length bc] 35)).heap.size) := ⟨⟨below_box _, heap_alloc_new w _⟩, by simp⟩
  have HGR : Hid (∀ (y z : World) (r : Option Nat), Aft w #[.string bt, .int .i64 bp, .int .i64 bs, .int .i64 bn, .int .i64 bf, .slice ba bss.length bc] y → y.grownBy z r → (∀ x, r = some x → w.heap.size + 1 ≤ x) → Aft w #[.string bt, .int .i64 bp, .int .i64 bs, .int .i64 bn, .int .i64 bf, .slice ba bss.length bc] z) := fun y z r h hg hr => h.grown hg hr
  have HBW : Hid (∀ y z : World, Aft w #[.string bt, .int .i64 bp, .int .i64 bs, .int .i64 bn, .int .i64 bf, .slice ba bss.length bc] y → Below y.heap.size y z → Aft w #[.string bt, .int .i64 bp, .int .i64 bs, .int .i64 bn, .int .i64 bf, .slice ba bss.length bc] z) := fun y z h hb => h.below hb
  have HS : Hid (∀ y : World, y.heap[w.heap.size]? = some (.cells #[.string bt, .int .i64 bp, .int .i64 bs, .int .i64 bn, .int .i64 bf, .slice ba bss.length bc] 35 (0, 0)) → y.cell? ⟨w.heap.size, 0, none⟩ = some (.string bt) ∧ y.cell? ⟨w.heap.size, 1, none⟩ = some (.int .i64 bp) ∧ y.cell? ⟨w.heap.size, 2, none⟩ = some (.int .i64 bs) ∧ y.cell? ⟨w.heap.size, 3, none⟩ = some (.int .i64 bn) ∧ y.cell? ⟨w.heap.size, 4, none⟩ = some (.int .i64 bf) ∧ y.cell? ⟨w.heap.size, 5, none⟩ = some (.slice ba bss.length bc)) := fun y h => six_cells' h
  have HLN : Hid ((l0 ++ [Sp.mk bt bp bs bn bf bss ba bc]).length = l0.length + 1) := by show _ = _; simp
  have HSM : Hid (∀ (a : Option Addr) (c : Nat) (y : World), SCells y a (l0 ++ [Sp.mk bt bp bs bn bf bss ba bc]) → Below w.heap.size w y → Calls Try.prog 8 #[.slice a (l0.length + 1) c] y fun e z => IsT (SmallC (l0 ++ [Sp.mk bt bp bs bn bf bss ba bc])) e ∧ Below y.heap.size y z) := fun a c y h hb => small_snoc a c l0 (Sp.mk bt bp bs bn bf bss ba bc) a0 w y hu hs hlb h hb
  have HA0 : Hid (Aft w #[.string bt, .int .i64 bp, .int .i64 bs, .int .i64 bn, .int .i64 bf, .slice ba bss.length bc] (w.alloc (.cells #[.string bt, .int .i64 bp, .int .i64 bs, .int .i64 bn, .int .i64 bf, .slice ba bss.length bc] 35))) := HAF.out.1
  clear hu hs hlb hn0
  unfold spv Sp.cells
  go_enter Try.func7, Try.ntmps7
  go_upto_region 1 with fail
  go_cut [19] (fun s19 wc => ∃ sb, s19 = .bool (!sb) ∧ (sb = true → SmallC (l0 ++ [Sp.mk bt bp bs bn bf bss ba bc])) ∧ Aft w #[.string bt, .int .i64 bp, .int .i64 bs, .int .i64 bn, .int .i64 bf, .slice ba bss.length bc] wc)
  case first =>
    refine wp_region_lat (fun y : World => y.cell? ⟨w.heap.size, 0, none⟩ = some (.string bt) ∧ y.cell? ⟨w.heap.size, 1, none⟩ = some (.int .i64 bp) ∧ y.cell? ⟨w.heap.size, 2, none⟩ = some (.int .i64 bs) ∧ y.cell? ⟨w.heap.size, 3, none⟩ = some (.int .i64 bn) ∧ y.cell? ⟨w.heap.size, 4, none⟩ = some (.int .i64 bf) ∧ y.cell? ⟨w.heap.size, 5, none⟩ = some (.slice ba bss.length bc)) 7 (by kernel_rfl) (HS.out (w.alloc (.cells #[.string bt, .int .i64 bp, .int .i64 bs, .int .i64 bn, .int .i64 bf, .slice ba bss.length bc] 35)).drew HA0.out.2) (fun hHeld => ?_)
    refine lat_take 1 (v := ?_) rfl (by kernel_rfl) (by kernel_rfl) (by kernel_rfl) (by kernel_rfl) (fun _ _ _ h => h) (by rfl) ?_ (by assumption) ?_
    rotate_left
    · (intro w hSw; (try dsimp only at hSw); (try obtain ⟨q0, q1, q2, q3, q4, q5⟩ := hSw); go_simp <;> with_reducible rfl)
    try simp only [Act.put, List.setIfInBounds_toArray, List.set_cons_zero, List.set_cons_succ]
    refine lat_take 3 (v := ?_) rfl (by kernel_rfl) (by kernel_rfl) (by kernel_rfl) (by kernel_rfl) (fun _ _ _ h => h) (by rfl) ?_ (by assumption) ?_
    rotate_left
    · (intro w hSw; (try dsimp only at hSw); (try obtain ⟨q0, q1, q2, q3, q4, q5⟩ := hSw); go_simp <;> with_reducible rfl)
    try simp only [Act.put, List.setIfInBounds_toArray, List.set_cons_zero, List.set_cons_succ]
    refine lat_two 0 4 rfl rfl (by kernel_rfl) (by decide) (by decide) (by rfl) (by rfl) (fun K hK => ?_) (fun K hK => ?_)
    · go_simp
      have haf1 : Aft w #[.string bt, .int .i64 bp, .int .i64 bs, .int .i64 bn, .int .i64 bf, .slice ba bss.length bc] ((w.alloc (.cells #[.string bt, .int .i64 bp, .int .i64 bs, .int .i64 bn, .int .i64 bf, .slice ba bss.length bc] 35)).alloc (.cells #[] 35)).drew := HBW.out (w.alloc (.cells #[.string bt, .int .i64 bp, .int .i64 bs, .int .i64 bn, .int .i64 bf, .slice ba bss.length bc] 35)) _ HA0.out (bel_drew' (below_box _))
      have hown1 : ((w.alloc (.cells #[.string bt, .int .i64 bp, .int .i64 bs, .int .i64 bn, .int .i64 bf, .slice ba bss.length bc] 35)).alloc (.cells #[] 35)).drew.ownsRow (w.heap.size + 1) 35 6 (.slice (some ⟨w.heap.size + 1, 0, none⟩) 0 0) ([] : List Sp).length (rowv cQ []) := by
        have h := empty_own (B := w.heap.size + 1) (w.alloc (.cells #[.string bt, .int .i64 bp, .int .i64 bs, .int .i64 bn, .int .i64 bf, .slice ba bss.length bc] 35)) HAF.out.2
        rw [show (w.alloc (.cells #[.string bt, .int .i64 bp, .int .i64 bs, .int .i64 bn, .int .i64 bf, .slice ba bss.length bc] 35)).heap.size = w.heap.size + 1 by simp] at h
        exact h
      refine hK.out _ _ (HS.out _ haf1.2) (fun hHeld1 => ?_)
      clear hK
      generalize ((w.alloc (.cells #[.string bt, .int .i64 bp, .int .i64 bs, .int .i64 bn, .int .i64 bf, .slice ba bss.length bc] 35)).alloc (.cells #[] 35)).drew = y1 at *
      have hsz1 : w.heap.size + 1 < y1.heap.size := (hown1.lt _ rfl).2
      refine lat_two 2 4 rfl rfl (by kernel_rfl) (by decide) (by decide) (by rfl) (by rfl) (fun K hK => ?_) (fun K hK => ?_)
      · refine wp_app_steps _ _ rfl (w.heap.size + 1) _ [] l0 rfl hown1 (by omega) a0 l0.length cap0 rfl rfl (HU.out y1 haf1.1).cells HN0.out (by simp; omega) ?_
        intro v2 w2 hown2 hg2
        have haf2 := HGR.out y1 w2 _ haf1 hg2 (fun x hx => (hown1.lt x hx).1)
        have hsz2 := hg2.size
        refine hK.out _ _ (HS.out w2 haf2.2) (fun hHeld2 => ?_)
        clear hK
        try simp only [Act.put, List.setIfInBounds_toArray, List.set_cons_zero, List.set_cons_succ]
        refine lat_one 4 rfl (by kernel_rfl) (by decide) (by rfl) (fun K hK => ?_)
        go_simp
        have haf3 := HBW.out w2 (w2.alloc (.cells #[.string bt, .int .i64 bp, .int .i64 bs, .int .i64 bn, .int .i64 bf, .slice ba bss.length bc] 35)) haf2 (below_box _)
        have hown3 := own_keep hown2 (below_box (.cells #[.string bt, .int .i64 bp, .int .i64 bs, .int .i64 bn, .int .i64 bf, .slice ba bss.length bc] 35)) (Nat.le_refl _)
        have hblk3 := heap_alloc_new w2 (.cells #[.string bt, .int .i64 bp, .int .i64 bs, .int .i64 bn, .int .i64 bf, .slice ba bss.length bc] 35)
        have hsz3 : w.heap.size + 1 ≤ (w2.alloc (.cells #[.string bt, .int .i64 bp, .int .i64 bs, .int .i64 bn, .int .i64 bf, .slice ba bss.length bc] 35)).heap.size := by simp; omega
        refine hK.out _ _ (HS.out _ haf3.2) (fun hHeld3 => ?_)
        clear hK
        generalize w2.alloc (.cells #[.string bt, .int .i64 bp, .int .i64 bs, .int .i64 bn, .int .i64 bf, .slice ba bss.length bc] 35) = w3 at *
        refine lat_one 5 rfl (by kernel_rfl) (by decide) (by rfl) (fun K hK => ?_)
        refine wp_app_steps _ _ rfl (w.heap.size + 1) v2 l0 [Sp.mk bt bp bs bn bf bss ba bc] rfl hown3 (by omega) (some ⟨w2.heap.size, 0, none⟩) 1 1 rfl rfl (one_step hblk3) (fun e => by cases e) (by have := HLB.out; unfold big at this; simp; omega) ?_
        intro v5 w5 hown5 hg5
        obtain ⟨a5, c5, hv5, hsc5⟩ := own_scells hown5
        rw [HLN.out] at hv5
        subst hv5
        have haf5 := HGR.out w3 w5 _ haf3 hg5 (fun x hx => ((hown3).lt x hx).1)
        have HSM5 : Hid _ := HSM.out a5 c5 w5 hsc5 haf5.1
        refine hK.out _ _ (HS.out w5 haf5.2) (fun hHeld5 => ?_)
        clear hK
        try simp only [Act.put, List.setIfInBounds_toArray, List.set_cons_zero, List.set_cons_succ]
        refine lat_one 6 rfl (by kernel_rfl) (by decide) (by rfl) (fun K hK => ?_)
        go_simp
        refine Calls.mono HSM5.out ?_
        rintro e w6 ⟨⟨sb, rfl, hsb⟩, hb6⟩
        have HSB6 : Hid (sb = true → SmallC (l0 ++ [Sp.mk bt bp bs bn bf bss ba bc])) := hsb
        have haf6 := HBW.out w5 w6 haf5 hb6
        dsimp only
        refine hK.out _ _ (HS.out w6 haf6.2) (fun hHeld6 => ?_)
        clear hK hsb
        try simp only [Act.put, List.setIfInBounds_toArray, List.set_cons_zero, List.set_cons_succ]
        refine lat_last 7 rfl (by kernel_rfl) (by decide) (by kernel_rfl) (by rfl) (fun K hK => ?_)
        go_simp
        refine hK.out _ _ ?_
        clear hK
        try simp only [Act.put, List.setIfInBounds_toArray, List.set_cons_zero, List.set_cons_succ]
        go_wp2
        go_meet
        case rel => exact ⟨sb, rfl, HSB6.out, haf6⟩
      · go_simp
        have haf2 := HBW.out y1 (y1.alloc (.cells #[.string bt, .int .i64 bp, .int .i64 bs, .int .i64 bn, .int .i64 bf, .slice ba bss.length bc] 35)) haf1 (below_box _)
        have hown2 := own_keep hown1 (below_box (.cells #[.string bt, .int .i64 bp, .int .i64 bs, .int .i64 bn, .int .i64 bf, .slice ba bss.length bc] 35)) (Nat.le_refl _)
        have hblk2 := heap_alloc_new y1 (.cells #[.string bt, .int .i64 bp, .int .i64 bs, .int .i64 bn, .int .i64 bf, .slice ba bss.length bc] 35)
        have hsz2 : y1.heap.size < (y1.alloc (.cells #[.string bt, .int .i64 bp, .int .i64 bs, .int .i64 bn, .int .i64 bf, .slice ba bss.length bc] 35)).heap.size := by simp
        refine hK.out _ _ (HS.out _ haf2.2) (fun hHeld2 => ?_)
        clear hK
        generalize y1.alloc (.cells #[.string bt, .int .i64 bp, .int .i64 bs, .int .i64 bn, .int .i64 bf, .slice ba bss.length bc] 35) = w2 at *
        refine lat_one 2 rfl (by kernel_rfl) (by decide) (by rfl) (fun K hK => ?_)
        refine wp_app_steps _ _ rfl (w.heap.size + 1) (.slice (some ⟨w.heap.size + 1, 0, none⟩) 0 0) [] l0 rfl hown2 (by omega) a0 l0.length cap0 rfl rfl (HU.out w2 haf2.1).cells HN0.out (by simp; omega) ?_
        intro v3 w3 hown3 hg3
        have haf3 := HGR.out w2 w3 _ haf2 hg3 (fun x hx => (hown2.lt x hx).1)
        have hblk3 := (hg3.block y1.heap.size hsz2 (fun e => by simp [Value.ownBlock] at e; omega)).trans hblk2
        have hsz3 := hg3.size
        refine hK.out _ _ (HS.out w3 haf3.2) (fun hHeld3 => ?_)
        clear hK
        try simp only [Act.put, List.setIfInBounds_toArray, List.set_cons_zero, List.set_cons_succ]
        refine lat_one 5 rfl (by kernel_rfl) (by decide) (by rfl) (fun K hK => ?_)
        refine wp_app_steps _ _ rfl (w.heap.size + 1) v3 l0 [Sp.mk bt bp bs bn bf bss ba bc] rfl hown3 (by omega) (some ⟨y1.heap.size, 0, none⟩) 1 1 rfl rfl (one_step hblk3) (fun e => by cases e) (by have := HLB.out; unfold big at this; simp; omega) ?_
        intro v5 w5 hown5 hg5
        obtain ⟨a5, c5, hv5, hsc5⟩ := own_scells hown5
        rw [HLN.out] at hv5
        subst hv5
        have haf5 := HGR.out w3 w5 _ haf3 hg5 (fun x hx => ((hown3).lt x hx).1)
        have HSM5 : Hid _ := HSM.out a5 c5 w5 hsc5 haf5.1
        refine hK.out _ _ (HS.out w5 haf5.2) (fun hHeld5 => ?_)
        clear hK
        try simp only [Act.put, List.setIfInBounds_toArray, List.set_cons_zero, List.set_cons_succ]
        refine lat_one 6 rfl (by kernel_rfl) (by decide) (by rfl) (fun K hK => ?_)
        go_simp
        refine Calls.mono HSM5.out ?_
        rintro e w6 ⟨⟨sb, rfl, hsb⟩, hb6⟩
        have HSB6 : Hid (sb = true → SmallC (l0 ++ [Sp.mk bt bp bs bn bf bss ba bc])) := hsb
        have haf6 := HBW.out w5 w6 haf5 hb6
        dsimp only
        refine hK.out _ _ (HS.out w6 haf6.2) (fun hHeld6 => ?_)
        clear hK hsb
        try simp only [Act.put, List.setIfInBounds_toArray, List.set_cons_zero, List.set_cons_succ]
        refine lat_last 7 rfl (by kernel_rfl) (by decide) (by kernel_rfl) (by rfl) (fun K hK => ?_)
        go_simp
        refine hK.out _ _ ?_
        clear hK
        try simp only [Act.put, List.setIfInBounds_toArray, List.set_cons_zero, List.set_cons_succ]
        go_wp2
        go_meet
        case rel => exact ⟨sb, rfl, HSB6.out, haf6⟩
    · go_simp
      have haf1 : Aft w #[.string bt, .int .i64 bp, .int .i64 bs, .int .i64 bn, .int .i64 bf, .slice ba bss.length bc] ((w.alloc (.cells #[.string bt, .int .i64 bp, .int .i64 bs, .int .i64 bn, .int .i64 bf, .slice ba bss.length bc] 35)).alloc (.cells #[.string bt, .int .i64 bp, .int .i64 bs, .int .i64 bn, .int .i64 bf, .slice ba bss.length bc] 35)).drew := HBW.out (w.alloc (.cells #[.string bt, .int .i64 bp, .int .i64 bs, .int .i64 bn, .int .i64 bf, .slice ba bss.length bc] 35)) _ HA0.out (bel_drew' (below_box _))
      have hblk1 : ((w.alloc (.cells #[.string bt, .int .i64 bp, .int .i64 bs, .int .i64 bn, .int .i64 bf, .slice ba bss.length bc] 35)).alloc (.cells #[.string bt, .int .i64 bp, .int .i64 bs, .int .i64 bn, .int .i64 bf, .slice ba bss.length bc] 35)).drew.heap[w.heap.size + 1]? = some (.cells #[.string bt, .int .i64 bp, .int .i64 bs, .int .i64 bn, .int .i64 bf, .slice ba bss.length bc] 35 (0, 0)) := by
        have h := heap_alloc_new (w.alloc (.cells #[.string bt, .int .i64 bp, .int .i64 bs, .int .i64 bn, .int .i64 bf, .slice ba bss.length bc] 35)) (.cells #[.string bt, .int .i64 bp, .int .i64 bs, .int .i64 bn, .int .i64 bf, .slice ba bss.length bc] 35)
        rw [show (w.alloc (.cells #[.string bt, .int .i64 bp, .int .i64 bs, .int .i64 bn, .int .i64 bf, .slice ba bss.length bc] 35)).heap.size = w.heap.size + 1 by simp] at h
        exact h
      refine hK.out _ _ (HS.out _ haf1.2) (fun hHeld1 => ?_)
      clear hK
      generalize ((w.alloc (.cells #[.string bt, .int .i64 bp, .int .i64 bs, .int .i64 bn, .int .i64 bf, .slice ba bss.length bc] 35)).alloc (.cells #[.string bt, .int .i64 bp, .int .i64 bs, .int .i64 bn, .int .i64 bf, .slice ba bss.length bc] 35)).drew = y1 at *
      have hsz1 := (Array.getElem?_eq_some_iff.1 hblk1).1
      refine lat_one 0 rfl (by kernel_rfl) (by decide) (by rfl) (fun K hK => ?_)
      go_simp
      have haf2 := HBW.out y1 (y1.alloc (.cells #[] 35)) haf1 (below_box _)
      have hown2 := empty_own (B := w.heap.size + 1) y1 (by omega)
      have hblk2 := ((below_box (w := y1) (.cells #[] 35)).block _ hsz1).trans hblk1
      have hsz2 : y1.heap.size < (y1.alloc (.cells #[] 35)).heap.size := by simp
      refine hK.out _ _ (HS.out _ haf2.2) (fun hHeld2 => ?_)
      clear hK
      generalize y1.alloc (.cells #[] 35) = w2 at *
      refine lat_one 2 rfl (by kernel_rfl) (by decide) (by rfl) (fun K hK => ?_)
      refine wp_app_steps _ _ rfl (w.heap.size + 1) (.slice (some ⟨y1.heap.size, 0, none⟩) 0 0) [] l0 rfl hown2 (by omega) a0 l0.length cap0 rfl rfl (HU.out w2 haf2.1).cells HN0.out (by simp; omega) ?_
      intro v3 w3 hown3 hg3
      have haf3 := HGR.out w2 w3 _ haf2 hg3 (fun x hx => (hown2.lt x hx).1)
      have hblk3 := (hg3.block (w.heap.size + 1) (by omega) (fun e => by simp [Value.ownBlock] at e; omega)).trans hblk2
      have hsz3 := hg3.size
      refine hK.out _ _ (HS.out w3 haf3.2) (fun hHeld3 => ?_)
      clear hK
      try simp only [Act.put, List.setIfInBounds_toArray, List.set_cons_zero, List.set_cons_succ]
      refine lat_one 5 rfl (by kernel_rfl) (by decide) (by rfl) (fun K hK => ?_)
      refine wp_app_steps _ _ rfl (w.heap.size + 1) v3 l0 [Sp.mk bt bp bs bn bf bss ba bc] rfl hown3 (by omega) (some ⟨w.heap.size + 1, 0, none⟩) 1 1 rfl rfl (one_step hblk3) (fun e => by cases e) (by have := HLB.out; unfold big at this; simp; omega) ?_
      intro v5 w5 hown5 hg5
      obtain ⟨a5, c5, hv5, hsc5⟩ := own_scells hown5
      rw [HLN.out] at hv5
      subst hv5
      have haf5 := HGR.out w3 w5 _ haf3 hg5 (fun x hx => ((hown3).lt x hx).1)
      have HSM5 : Hid _ := HSM.out a5 c5 w5 hsc5 haf5.1
      refine hK.out _ _ (HS.out w5 haf5.2) (fun hHeld5 => ?_)
      clear hK
      try simp only [Act.put, List.setIfInBounds_toArray, List.set_cons_zero, List.set_cons_succ]
      refine lat_one 6 rfl (by kernel_rfl) (by decide) (by rfl) (fun K hK => ?_)
      go_simp
      refine Calls.mono HSM5.out ?_
      rintro e w6 ⟨⟨sb, rfl, hsb⟩, hb6⟩
      have HSB6 : Hid (sb = true → SmallC (l0 ++ [Sp.mk bt bp bs bn bf bss ba bc])) := hsb
      have haf6 := HBW.out w5 w6 haf5 hb6
      dsimp only
      refine hK.out _ _ (HS.out w6 haf6.2) (fun hHeld6 => ?_)
      clear hK hsb
      try simp only [Act.put, List.setIfInBounds_toArray, List.set_cons_zero, List.set_cons_succ]
      refine lat_last 7 rfl (by kernel_rfl) (by decide) (by kernel_rfl) (by rfl) (fun K hK => ?_)
      go_simp
      refine hK.out _ _ ?_
      clear hK
      try simp only [Act.put, List.setIfInBounds_toArray, List.set_cons_zero, List.set_cons_succ]
      go_wp2
      go_meet
      case rel => exact ⟨sb, rfl, HSB6.out, haf6⟩
  case rest =>
    obtain ⟨sb, hsv, hsb, haf⟩ := hcut
    have HB1 : Hid (Below w.heap.size w wc) := haf.1
    have HX1 : Hid (wc.heap[w.heap.size]? = some (.cells #[.string bt, .int .i64 bp, .int .i64 bs, .int .i64 bn, .int .i64 bf, .slice ba bss.length bc] 35 (0, 0))) := haf.2
    have HSB : Hid (sb = true → SmallC (l0 ++ [Sp.mk bt bp bs bn bf bss ba bc])) := hsb
    clear HAF HSM HGR HBW HA0 haf hsb
    cases sb
    · have hsv' : _ = Value.bool true := hsv
      subst hsv'
      go_wp2_with (go_at_call 9; refine (HAWK.out _ HB1.out).mono ?_; rintro e w9 ⟨rfl, hb9⟩)
      go_ret
      exact ⟨rfl, hb9⟩
    · have hsv' : _ = Value.bool false := hsv
      subst hsv'
      have HSL := small_parts (HSB.out (by first | rfl | trivial))
      have HSL1 : Hid _ := HSL.1
      have HSL2 : Hid (StepOk (Sp.mk bt bp bs bn bf bss ba bc)) := HSL.2.1
      have HSL3 : Hid (∀ k, costL (l0.take k) + costS (Sp.mk bt bp bs bn bf bss ba bc) ≤ 400) := HSL.2.2
      have HT0 : Hid (TwoL w.heap.size w wc.heap.size ls0 (wc.heap.size + 1) ls0 ((wc.alloc (.cells #[.map none, .map none, .map none] 59)).alloc (.cells #[.map none, .map none, .map none] 59)) ∧ SixC ((wc.alloc (.cells #[.map none, .map none, .map none] 59)).alloc (.cells #[.map none, .map none, .map none] 59)) w.heap.size bt bp bs bn bf ba bss.length bc) := ⟨TwoL.start HB1.out HB1.out.size, ((SixC.of HX1.out).below (below_box _)).below (below_box _)⟩
      clear HSB HSL HX1 HN0
      go_wp2_with (go_at_call 10; refine (new_any _).mono ?_; rintro e w2 ⟨rfl, hw2⟩; subst hw2)
      go_loopw [7] (fun i wr => ∃ (k : Nat), k ≤ l0.length ∧ i = .int .i64 k ∧ TwoL w.heap.size w wc.heap.size (sawL (l0.take k) ls0) (wc.heap.size + 1) (sawL (l0.take k) ls0) wr ∧ SixC wr w.heap.size bt bp bs bn bf ba bss.length bc) (fun i _ => l0.length - (intOf i).toNat)
      case atStart => exact ⟨0, by omega, rfl, HT0.out.1, HT0.out.2⟩
      case round =>
        clear HT0
        obtain ⟨k, hk, rfl, htl, hsx⟩ := hrel
        by_cases hlt : k < l0.length
        · have hltI : (k : Int) < (l0.length : Int) := by omega
          have hk1 : IntKind.i64.wrap ((k : Int) + 1) = (k : Int) + 1 := by rw [IntKind.wrap_i64]; omega
          have hk2 : (k : Int) + 1 ≤ (cap0 : Int) := by omega
          have hk3 : (0 : Int) ≤ (k : Int) + 1 := by omega
          have hk4 : ((k : Int) + 1).toNat = k + 1 := by omega
          have hbw := htl.bel
          obtain ⟨g, off, rfl, c0, c1, c2, c3, c4, c5⟩ := (HU.out wr hbw).cells k hlt
          have HUP : Hid (∀ y, Below w.heap.size w y → SpUp y (l0.getD k spz)) := fun y hb => (HU.out y hb).each k hlt
          have HOK : Hid (StepOk (l0.getD k spz)) := HSL1.out k hlt
          have HSW : Hid (sawL (l0.take (k + 1)) ls0 = _) := sawL_take l0 k hlt ls0
          have HAG : Hid (∀ y, Below w.heap.size w y → Calls Try.prog 23 #[.slice (some ⟨g, off, none⟩) (k + 1) cap0, .agg #[.string bt, .int .i64 bp, .int .i64 bs, .int .i64 bn, .int .i64 bf, .slice ba bss.length bc]] y fun e z => e = .returned (.int .i64 (saw (sawL (l0.take (k + 1)) ls0) (bt, bp) bs bn bf (bsOf bss)).1) ∧ Below y.heap.size y z) := fun y hb => by
            have h := again_any (some ⟨g, off, none⟩) cap0 (l0.take (k + 1)) bt bp bs bn bf bss ba bc y (fun z hz => (HU.out z (hb.trans (hz.mono hb.size))).take (k + 1)) (fun z hz => HSU.out z (hb.trans (hz.mono hb.size))) (fun i hi => by
              have hi2 : i < k + 1 ∧ i < l0.length := by rw [List.length_take] at hi; omega
              rw [take_get l0 (k + 1) i hi2.1]
              exact HSL1.out i hi2.2) HSL2.out (Nat.le_trans (HSL3.out (k + 1)) (by omega))
            rw [show (l0.take (k + 1)).length = k + 1 by rw [List.length_take]; omega] at h
            exact h
          generalize sawL (l0.take k) ls0 = S at *
          generalize l0.getD k spz = s at *
          obtain ⟨tp, pt, st, nx, fr, ss, sa, sc⟩ := s
          simp only at c0 c1 c2 c3 c4 c5
          have ht1 : tp.size ≤ 281474976710656 := by have h : tp.size ≤ big := (HUP.out wr hbw).t; unfold big at h; omega
          have ht2 : bt.size ≤ 281474976710656 := by have h : bt.size ≤ big := (HSU.out wr hbw).t; unfold big at h; omega
          have HIN : Hid (∀ y, Below w.heap.size w y → BIn y sa ss) := fun y hb => BIn.of_up (HUP.out y hb).b HOK.out.b
          have HIB : Hid (∀ y, Below w.heap.size w y → BIn y ba bss) := fun y hb => BIn.of_up (HSU.out y hb).b HSL2.out.b
          have HS1 : Hid (SixC (wr.alloc (.cells #[.string tp, .int .i64 pt, .int .i64 st, .int .i64 nx, .int .i64 fr, .slice sa ss.length sc] 35)) wr.heap.size tp pt st nx fr sa ss.length sc ∧ Calls Try.prog 11 #[.pointer (some ⟨wc.heap.size, 0, none⟩), .string tp, .int .i64 pt, .int .i64 st, .int .i64 nx, .int .i64 fr, .slice sa ss.length sc] (wr.alloc (.cells #[.string tp, .int .i64 pt, .int .i64 st, .int .i64 nx, .int .i64 fr, .slice sa ss.length sc] 35)) fun e z => e = .returned (.int .i64 (saw S (tp, pt) st nx fr (bsOf ss)).1) ∧ TwoL w.heap.size w wc.heap.size (saw S (tp, pt) st nx fr (bsOf ss)).2 (wc.heap.size + 1) S z ∧ SixC z wr.heap.size tp pt st nx fr sa ss.length sc ∧ SixC z w.heap.size bt bp bs bn bf ba bss.length bc) := by
            have h0 := htl.below (below_box (.cells #[.string tp, .int .i64 pt, .int .i64 st, .int .i64 nx, .int .i64 fr, .slice sa ss.length sc] 35))
            have h1 : SixC (wr.alloc (.cells #[.string tp, .int .i64 pt, .int .i64 st, .int .i64 nx, .int .i64 fr, .slice sa ss.length sc] 35)) wr.heap.size tp pt st nx fr sa ss.length sc := SixC.of (heap_alloc_new wr _)
            exact ⟨h1, (h0.saw tp pt st nx fr sa sc ss (HIN.out _ h0.bel) ht1).mono fun e z ⟨q1, q2, q3⟩ => ⟨q1, q2, h1.ck q3, (hsx.below (below_box _)).ck q3⟩⟩
          have HS2 : Hid (∀ T y, TwoL w.heap.size w wc.heap.size T (wc.heap.size + 1) S y → SixC y wr.heap.size tp pt st nx fr sa ss.length sc → SixC y w.heap.size bt bp bs bn bf ba bss.length bc → Calls Try.prog 11 #[.pointer (some ⟨wc.heap.size + 1, 0, none⟩), .string tp, .int .i64 pt, .int .i64 st, .int .i64 nx, .int .i64 fr, .slice sa ss.length sc] y fun e z => e = .returned (.int .i64 (saw S (tp, pt) st nx fr (bsOf ss)).1) ∧ TwoL w.heap.size w wc.heap.size T (wc.heap.size + 1) (saw S (tp, pt) st nx fr (bsOf ss)).2 z ∧ SixC z w.heap.size bt bp bs bn bf ba bss.length bc) := fun T y h1 h2 h3 => (h1.swap.saw tp pt st nx fr sa sc ss (HIN.out _ h1.bel) ht1).mono fun e z ⟨q1, q2, q3⟩ => ⟨q1, q2.swap, h3.ck q3⟩
          have HS3 : Hid (∀ T U y, TwoL w.heap.size w wc.heap.size T (wc.heap.size + 1) U y → SixC y w.heap.size bt bp bs bn bf ba bss.length bc → (saw T (bt, bp) bs bn bf (bsOf bss)).1 ≠ 0 → Calls Try.prog 11 #[.pointer (some ⟨wc.heap.size, 0, none⟩), .string bt, .int .i64 bp, .int .i64 bs, .int .i64 bn, .int .i64 bf, .slice ba bss.length bc] y fun e z => e = .returned (.int .i64 (saw T (bt, bp) bs bn bf (bsOf bss)).1) ∧ TwoL w.heap.size w wc.heap.size T (wc.heap.size + 1) U z ∧ SixC z w.heap.size bt bp bs bn bf ba bss.length bc) := fun T U y h1 h2 h3 => (h1.saw bt bp bs bn bf ba bc bss (HIB.out _ h1.bel) ht2).mono fun e z ⟨q1, q2, q3⟩ => ⟨q1, by rw [saw_no h3] at q2; exact q2, h2.ck q3⟩
          have HSW2 : Hid (sawL (l0.take (k + 1)) ls0 = (saw S (tp, pt) st nx fr (bsOf ss)).2) := HSW.out
          rw [HSW2.out] at HAG
          generalize saw S (tp, pt) st nx fr (bsOf ss) = Q1 at *
          obtain ⟨r1, T1⟩ := Q1
          simp only at HS1 HS2 HSW2 HAG
          have HS4 : Hid (∀ y, TwoL w.heap.size w wc.heap.size T1 (wc.heap.size + 1) T1 y → SixC y w.heap.size bt bp bs bn bf ba bss.length bc → (saw T1 (bt, bp) bs bn bf (bsOf bss)).1 ≠ 0 → Calls Try.prog 11 #[.pointer (some ⟨wc.heap.size, 0, none⟩), .string bt, .int .i64 bp, .int .i64 bs, .int .i64 bn, .int .i64 bf, .slice ba bss.length bc] y fun e z => e = .returned (.int .i64 (saw T1 (bt, bp) bs bn bf (bsOf bss)).1) ∧ TwoL w.heap.size w wc.heap.size T1 (wc.heap.size + 1) T1 z ∧ SixC z w.heap.size bt bp bs bn bf ba bss.length bc) := HS3.out T1 T1
          generalize (saw T1 (bt, bp) bs bn bf (bsOf bss)).1 = r2 at *
          obtain ⟨f0, f1, f2, f3, f4, f5⟩ := HS1.out.1
          have tok1 : True := trivial
          clear HS3 HUP HOK HIN HIB HSW htl hsx hbw HSL1 HSL2 HSL3 ht1 ht2
          go_wp2_with (first
            | (have _t := tok1; go_at_call 11; refine Calls.mono HS1.out.2 ?_; rintro e y1 ⟨rfl, hT1, hX1, hD1⟩; clear _t tok1 f0 f1 f2 f3 f4 f5; obtain ⟨f0, f1, f2, f3, f4, f5⟩ := hX1)
            | (go_at_call 11; refine (HS2.out _ _ hT1 ⟨f0, f1, f2, f3, f4, f5⟩ hD1).mono ?_; rintro e y2 ⟨rfl, hT2, hD2⟩; clear f0 f1 f2 f3 f4 f5 hT1 hD1))
          have HA2 := HAG.out y2.drew (bel_drew' hT2.bel)
          have hS0 : SixC y2.drew w.heap.size bt bp bs bn bf ba bss.length bc := hD2
          clear HAG HS1 HS2
          go_region_held3 (fun y : World => y.cell? ⟨w.heap.size, 0, none⟩ = some (.string bt) ∧ y.cell? ⟨w.heap.size, 1, none⟩ = some (.int .i64 bp) ∧ y.cell? ⟨w.heap.size, 2, none⟩ = some (.int .i64 bs) ∧ y.cell? ⟨w.heap.size, 3, none⟩ = some (.int .i64 bn) ∧ y.cell? ⟨w.heap.size, 4, none⟩ = some (.int .i64 bf) ∧ y.cell? ⟨w.heap.size, 5, none⟩ = some (.slice ba bss.length bc)) (first | exact hS1 | exact hS0) ((go_at_call 23; refine Calls.mono HA2 ?_; rintro e y3 ⟨rfl, hb3⟩; have hb3' := (bel_drew' (Below.refl y2.heap.size y2)).trans hb3; have hS1 := hD2.below hb3'))
          have hT3 := hT2.below hb3'
          clear HA2 hS0 hb3 hb3' hT2 hD2
          obtain ⟨d0, d1, d2, d3, d4, d5⟩ := hS1
          by_cases hr2 : r2 = 0
          · subst hr2
            have HB3 := hT3.bel
            go_wp2_with (go_at_call 9; refine (HAWK.out _ HB3).mono ?_; rintro e w9 ⟨rfl, hb9⟩)
            go_ret
            exact ⟨rfl, hb9⟩
          · have hr3 : (r2 == 0) = false := by rw [beq_eq_false_iff_ne]; exact hr2
            have HA4 := HS4.out y3 hT3 ⟨d0, d1, d2, d3, d4, d5⟩ hr2
            clear HS4
            go_wp2_with (go_at_call 11; refine Calls.mono HA4 ?_; rintro e y4 ⟨rfl, hT4, hD4⟩; clear HA4)
            exact ⟨⟨k + 1, by omega, by go_num, by rw [HSW2.out]; exact hT4, hD4⟩, by simp [intOf]; omega⟩
        · obtain rfl : k = l0.length := by omega
          have hbw := htl.bel
          go_wp2_with (go_at_call 9; refine (HAWK.out _ hbw).mono ?_; rintro e w9 ⟨rfl, hb9⟩)
          go_ret
          exact ⟨rfl, hb9⟩
end Go.Proofs.Ytnnljdnaipjoiaa
