/- The document's own Feed: its walk. -/
import Derived.Test.YthbomgjjdmogpaaMf
namespace Go.Proofs.Ythbomgjjdmogpaa
set_option linter.unusedSimpArgs false
set_option linter.unusedVariables false
open Go.RowKit
theorem mfeed_shut (pm : Nat) (a : Option Addr) (c : Nat) (q : List Nat) (b : Option Addr) (n cap : Nat) (w : World) (h : MIs w pm a c q true) :
    Calls Try.prog 13 #[.pointer (some ⟨pm, 0, none⟩), .slice b n cap] w fun e w' => e = .returned (.tuple #[.slice none 0 0, .bool false]) ∧ w' = w := by
  obtain ⟨z0, z1, zf⟩ := box2_cells h.box
  clear zf h
  go_enter Try.func13, Try.ntmps13
  go_wp2_with fail
  go_ret2
  exact ⟨rfl, rfl⟩
theorem slice_u64 (w : World) (a : Option Addr) (len cap m : Nat) (h1 : 4 + m ≤ len) (h2 : len ≤ cap) : (Instr.slice 23 (.slice a len cap) (some (.int .i64 4)) (some (.int .u64 ((4 : Int) + (m : Int)))) none).run Try.prog w = .ok (.slice (cutA a cap 4) m (cap - 4)) w := by
  have hs : (sizeOf 5).run Try.prog w = .ok 1 w := by
    obtain ⟨i, hi, e⟩ := Option.map_eq_some_iff.1 Try.info5s
    simp [sizeOf, typeInfo, hi, e]
  have e1 : ((4 : Int) + (m : Int)).toNat = 4 + m := by omega
  have h4 : (0 : Int) ≤ (4 : Int) + (m : Int) ∧ (4 : Int) + (m : Int) ≤ (cap : Int) := by omega
  simp [Instr.slice, run_underlying Try.underlying23, Instr.sliceBounds, Instr.sliceBound, asIntOf, h4, hs, cutA, e1]
  intro hh
  omega
def MLx (w : World) (pm : Nat) (r : List (List Nat) × Bool × List Nat) (T : Value) (x : World) : Prop :=
  ∃ X a c fs, X.length ≤ 200000 ∧ ML w pm r x X a c T fs
/-- How many bytes wait. -/
def lenAt (x : World) (pm : Nat) : Nat := match x.cell? ⟨pm, 0, none⟩ with | some (.slice _ n _) => n | _ => 0
/-- The bytes are put together. -/
theorem ML.start {w w3 : World} {pm : Nat} {a : Option Addr} {c : Nat} {q l : List Nat} {v : Value} (h : MIs w pm a c q false) (hl : ∀ i, (q ++ l).getD i 0 < 256) (ho : w3.ownsRow w.heap.size 5 1 v (q ++ l).length (cv (q ++ l))) (hb : Below w.heap.size w w3) :
    ∃ a3 c3, v = .slice a3 (q ++ l).length c3 ∧ ML w pm (frames (q ++ l)) (w3.setCell ⟨pm, 0, none⟩ (.slice a3 (q ++ l).length c3)) (q ++ l) a3 c3 (.slice none 0 0) [] := by
  have hpm : pm < w.heap.size := (Array.getElem?_eq_some_iff.1 h.box).1
  have hbox3 : w3.heap[pm]? = some (.cells #[.slice a q.length c, .bool false] 29 (0, 0)) := by rw [hb.block pm hpm]; exact h.box
  have hk4 : ∀ u, Keeps [pm] w3 (w3.setCell ⟨pm, 0, none⟩ u) := fun u => (Keeps.refl _ _).setCell ⟨pm, 0, none⟩ _ (.inl (by simp))
  have hk : ∀ u, Keeps [pm] w (w3.setCell ⟨pm, 0, none⟩ u) := fun u => (Keeps.of_below hb [pm]).trans (hk4 u) (fun y hy => .inl hy)
  rcases ho.2 with ⟨rfl, h0⟩ | ⟨g, cap, cur, rfl, hB, hg, hle, hm, _, _⟩
  · have e : q ++ l = [] := List.eq_nil_of_length_eq_zero h0
    refine ⟨none, 0, by rw [h0], ⟨set2_0 hbox3 _, by omega, by unfold maxLen; omega, fun _ => rfl, ?_, World.ownsRow_nil _ _ _ _, hk _, fun y hy => (by cases hy), by simp⟩⟩
    intro f hf
    simp only [List.mem_singleton] at hf
    subst hf
    exact ⟨by simp only; rw [e]; exact Row.nil _ _, fun y hy => by cases hy⟩
  · refine ⟨some ⟨g, 0, none⟩, cap, rfl, ⟨set2_0 hbox3 _, hle, hm, (fun e => by cases e), ?_, World.ownsRow_nil _ _ _ _, hk _, fun y hy => (by injection hy with hy; subst hy; exact hB), by simp⟩⟩
    have hA : AllF w3 [pm] [(⟨some ⟨g, 0, none⟩, cap, q ++ l⟩ : Fr)] := by
      intro f hf
      simp only [List.mem_singleton] at hf
      subst hf
      refine ⟨Own.row (B := w.heap.size) (cap := cap) ho hl, fun y hy => ?_⟩
      injection hy with hy
      subst hy
      exact ⟨by simp; omega, cur, hg⟩
    exact hA.keeps (hk4 _) (fun y hy => .inl hy)
set_option maxHeartbeats 1600000 in
set_option maxRecDepth 100000 in
theorem mfeed_open (pm : Nat) (a : Option Addr) (c : Nat) (q : List Nat) (b : Option Addr) (cap : Nat) (l : List Nat) (w : World) (h : MIs w pm a c q false) (hi : InE w [pm] b cap l) (hq : q.length ≤ 10000) (hl : l.length ≤ 100000) :
    Calls Try.prog 13 #[.pointer (some ⟨pm, 0, none⟩), .slice b l.length cap] w fun e w' => FDM w pm (frames (q ++ l)) e w' := by
  obtain ⟨z0, z1, zf⟩ := box2_cells h.box
  have zf0 := zf 0
  clear zf
  have hpm : pm < w.heap.size := (Array.getElem?_eq_some_iff.1 h.box).1
  have HRA : Hid (Row w a q ∧ (a = none → c = 0)) := ⟨h.row.row, h.row.nil⟩
  have HRB : Hid (Row w b l ∧ (b = none → cap = 0)) := ⟨hi.row, hi.nil⟩
  have HST : Hid (∀ (w3 : World) (v : Value), w3.ownsRow w.heap.size 5 1 v (q.length + l.length) (cv q ++ cv l) → Below w.heap.size w w3 → ∃ a3 c3, v = .slice a3 (q.length + l.length) c3 ∧ ML w pm (frames (q ++ l)) (w3.setCell ⟨pm, 0, none⟩ (.slice a3 (q.length + l.length) c3)) (q ++ l) a3 c3 (.slice none 0 0) [] ∧ w3.cell? ⟨pm, 0, none⟩ = some (.slice a q.length c) ∧ w3.frozen? ⟨pm, 0, none⟩ = false) := by
    intro w3 v h1 h2
    have e1 : (q ++ l).length = q.length + l.length := List.length_append
    have := ML.start h (app_lt h.row.row.lt hi.row.lt) (by rw [e1, cv_append]; exact h1) h2
    rw [e1] at this
    obtain ⟨a3, c3, e, hml⟩ := this
    exact ⟨a3, c3, e, hml, by rw [h2.cell hpm]; exact z0, by rw [World.frozen?_of_block (a := ⟨pm, 0, none⟩) (h2.block pm hpm)]; exact zf0⟩
  have HW0 : Hid ((w.alloc (.cells #[] 5)).ownsRow w.heap.size 5 1 (.slice (some ⟨w.heap.size, 0, none⟩) 0 0) 0 (cv [])) := World.ownsRow_made w #[] 0 (Nat.le_refl _) (by unfold maxLen; omega) rfl
  have hz0a : (w.alloc (.cells #[] 5)).cell? ⟨pm, 0, none⟩ = some (.slice a q.length c) := by rw [(below_box (w := w) (.cells #[] 5)).cell hpm]; exact z0
  have HQL : Hid ((q ++ l).length ≤ 200000) := by show _ ≤ _; rw [List.length_append]; omega
  obtain ⟨R, HR⟩ : ∃ R, Hid (frames (q ++ l) = R) := ⟨_, rfl⟩
  rw [HR.out] at HST ⊢
  have HFS : Hid (∀ (fs : List Fr) (x : World) (X : List Nat) (a : Option Addr) (c : Nat) {T : Value}, ML w pm R x X a c T fs → fs.length ≤ 100000) := by
    intro fs x X a c T hm
    have h1 := frames_count (q ++ l)
    rw [HR.out, hm.eq, List.length_append] at h1
    rw [List.length_append] at h1
    simp at h1
    omega
  clear h hi HR
  go_enter Try.func13, Try.ntmps13
  go_wp2_with (first
    | (at_builtin; have _t := HW0; refine wpList_append_row (by rfl) _ _ rfl w.heap.size w _ 0 _ rfl HW0.out (below_box _) (by simp) a c q rfl (Row.below HRA.out.1 (below_box _)) HRA.out.2 (by omega) ?_; intro v2 w2 h1 h2; have HO2 : Hid (w2.ownsRow w.heap.size 5 1 v2 (0 + q.length) (cv q) ∧ Below w.heap.size w w2) := ⟨h1, h2⟩; clear h1 h2 _t HW0)
    | (at_builtin; have _t := HO2; refine wpList_append_row (by rfl) _ _ rfl w.heap.size w _ (0 + q.length) _ rfl HO2.out.1 HO2.out.2 HO2.out.2.size b cap l rfl (Row.below HRB.out.1 HO2.out.2) HRB.out.2 (by omega) ?_; intro v3 w3 h1 h2; obtain ⟨a3, c3, e3, hml, hc3, hf3⟩ := HST.out w3 v3 (by rw [Nat.zero_add] at h1; exact h1) h2; subst e3; have HML : Hid (ML w pm R (w3.setCell ⟨pm, 0, none⟩ (.slice a3 (q.length + l.length) c3)) (q ++ l) a3 c3 (.slice none 0 0) []) := hml; clear h1 h2 hml _t HO2))
  go_loopw [6] (fun T x => MLx w pm R T x) (fun _ x => lenAt x pm)
  case atStart => exact ⟨q ++ l, a3, c3, [], HQL.out, HML.out⟩
  case round =>
    obtain ⟨X, a, c, fs, hXL, hml⟩ := hrel
    have HM : Hid (ML w pm R wr X a c u6 fs) := hml
    obtain ⟨z0, z1, zf⟩ := box2_cells hml.box
    have zf0 := zf 0
    have zf1 := zf 1
    have hcm : c ≤ 9223372036854775807 := by have := hml.max; unfold maxLen at this; omega
    have hlc := hml.le
    clear hml zf HML hc3 hf3 HST HRA HRB
    by_cases h4 : X.length < 4
    · have h4I : ¬ (4 : Int) ≤ (X.length : Int) := by omega
      have HF : Hid (FDM w pm R (.returned (.tuple #[u6, .bool true])) wr) := HM.out.rest (frames_short h4)
      go_wp2_with fail
      go_ret2
      exact HF.out
    have h4I : (4 : Int) ≤ (X.length : Int) := by omega
    obtain ⟨N, HN⟩ : ∃ N, Hid (be X = N) := ⟨_, rfl⟩
    have HG : Hid (Calls Try.prog 22 #[.slice a X.length c, .int .i64 0, .int .i64 4, .bool true] wr fun e w' => e = .returned (.tuple #[.int .u64 (N : Int), .bool true]) ∧ w' = wr) := by
      have := rget_yes a c X 0 4 true wr HM.out.ine.row (by omega) (by omega) (by omega) (by omega)
      rw [getV_big] at this
      have e : hv X 0 4 = N := HN.out
      rw [e] at this
      exact this
    have hNb : N < 4294967296 := by
      rw [← HN.out, be_eq]
      have h0 := HM.out.ine.row.lt 0
      have h1 := HM.out.ine.row.lt 1
      have h2 := HM.out.ine.row.lt 2
      have h3 := HM.out.ine.row.lt 3
      omega
    by_cases hbad : 8192 < N
    · have hbI : (8192 : Int) < (N : Int) := by omega
      have HF : Hid (FDM w pm R (.returned (.tuple #[u6, .bool false])) ((wr.setCell ⟨pm, 1, none⟩ (.bool true)).setCell ⟨pm, 0, none⟩ (.slice none 0 0))) := HM.out.bad (by omega) (by rw [HN.out]; exact hbad)
      go_wp2_with (go_at_call 22; refine Calls.mono HG.out ?_; rintro e w2 ⟨rfl, hw2⟩; subst w2)
      go_ret2
      exact HF.out
    have hbI : ¬ (8192 : Int) < (N : Int) := by omega
    by_cases hpart : X.length < 4 + N
    · have hpI : (X.length : Int) - 4 < (N : Int) := by omega
      have HF : Hid (FDM w pm R (.returned (.tuple #[u6, .bool true])) wr) := HM.out.rest (frames_part (by rw [HN.out]; omega) (by rw [HN.out]; exact hpart))
      go_wp2_with (go_at_call 22; refine Calls.mono HG.out ?_; rintro e w2 ⟨rfl, hw2⟩; subst w2)
      go_ret2
      exact HF.out
    · have hpI : ¬ (X.length : Int) - 4 < (N : Int) := by omega
      have ks1 : ∀ y, (Instr.slice 23 (.slice a X.length c) (some (.int .i64 4)) (some (.int .u64 ((4 : Int) + (N : Int)))) none).run Try.prog y = .ok (.slice (cutA a c 4) N (c - 4)) y := fun y => slice_u64 y a X.length c N (by omega) hlc
      have ks2 : ∀ y, (Instr.slice 23 (.slice a X.length c) (some (.int .u64 ((4 : Int) + (N : Int)))) none none).run Try.prog y = .ok (.slice (cutA a c (4 + N)) (X.length - (4 + N)) (c - (4 + N))) y := fun y => by
        have := run_slice_from y a X.length c (4 + N) .u64 (by omega)
        rw [show ((4 + N : Nat) : Int) = (4 : Int) + (N : Int) by omega] at this
        exact this
      have hpmr : pm < wr.heap.size := (Array.getElem?_eq_some_iff.1 HM.out.box).1
      have z0a : (wr.alloc (.cells #[] 5)).cell? ⟨pm, 0, none⟩ = some (.slice a X.length c) := by rw [(below_box (w := wr) (.cells #[] 5)).cell hpmr]; exact z0
      have HW1 : Hid ((wr.alloc (.cells #[] 5)).ownsRow wr.heap.size 5 1 (.slice (some ⟨wr.heap.size, 0, none⟩) 0 0) 0 (cv [])) := World.ownsRow_made wr #[] 0 (Nat.le_refl _) (by unfold maxLen; omega) rfl
      have HPL : Hid (((X.drop 4).take N).length = N) := by show _ = _; rw [List.length_take, List.length_drop]; omega
      have HPR : Hid (Row (wr.alloc (.cells #[] 5)) (cutA a c 4) ((X.drop 4).take N) ∧ (cutA a c 4 = none → c - 4 = 0)) := by
        have h1 := (HM.out.ine.cut 4).take N
        exact ⟨h1.row.below (below_box _), h1.nil⟩
      have HPT : Hid (∀ i, ((X.drop 4).take N).getD i 0 < 256) := HPR.out.1.lt
      have HNX : Hid (∀ (x2 x3 : World) (o : Obj) (v T' : Value) (ga : Option Addr) (gc : Nat), x2.ownsRow wr.heap.size 5 1 v ((X.drop 4).take N).length (cv ((X.drop 4).take N)) → Below wr.heap.size wr x2 → v = .slice ga ((X.drop 4).take N).length gc → x3.ownsRow w.heap.size 23 1 T' (fs ++ [(⟨ga, gc, (X.drop 4).take N⟩ : Fr)]).length ((fs ++ [(⟨ga, gc, (X.drop 4).take N⟩ : Fr)]).map Fr.v) → (x2.alloc o).grownBy x3 u6.ownBlock → ML w pm R (x3.setCell ⟨pm, 0, none⟩ (.slice (cutA a c (4 + N)) (X.length - (4 + N)) (c - (4 + N)))) (X.drop (4 + N)) (cutA a c (4 + N)) (c - (4 + N)) T' (fs ++ [(⟨ga, gc, (X.drop 4).take N⟩ : Fr)])) := by
        intro x2 x3 o v T' ga gc h1 h2 h3 h5 h6
        have e := HN.out
        subst e
        exact HM.out.next (by omega) (by omega) h1 h2 h3 h5 h6
      have HOT : Hid (wr.ownsRow w.heap.size 23 1 u6 fs.length (fs.map Fr.v) ∧ w.heap.size ≤ wr.heap.size ∧ ∀ y, u6.ownBlock = some y → y ≠ pm) := ⟨HM.out.owns, HM.out.keep.size, row_box HM.out.owns HM.out.box (by decide)⟩
      have HFL : Hid (fs.length ≤ 100000) := HFS.out fs wr X a c HM.out
      clear HM
      obtain ⟨PC, HPC⟩ : ∃ P, Hid ((X.drop 4).take N = P) := ⟨_, rfl⟩
      rw [HPC.out] at HPL HPR HPT HNX
      go_wp2_with (first
        | (go_at_call 22; refine Calls.mono HG.out ?_; rintro e w2 ⟨rfl, hw2⟩; subst w2)
        | (at_builtin; have _t := HW1; refine wpList_append_row (by rfl) _ _ rfl wr.heap.size wr _ 0 _ rfl HW1.out (below_box _) (by simp) (cutA a c 4) (c - 4) PC (by rw [HPL.out]; rfl) HPR.out.1 HPR.out.2 (by rw [HPL.out]; omega) ?_; intro v5 w5 h1 h2; have ho5 : w5.ownsRow wr.heap.size 5 1 v5 PC.length (cv PC) := (by rw [Nat.zero_add] at h1; exact h1); obtain ⟨ga, gc, e5, _, _⟩ := owns_row ho5 HPT.out; have HO5 : Hid (w5.ownsRow wr.heap.size 5 1 v5 PC.length (cv PC) ∧ Below wr.heap.size wr w5 ∧ v5 = .slice ga PC.length gc) := ⟨ho5, h2, e5⟩; rw [e5]; clear h1 h2 ho5 e5 _t HW1)
        | (at_builtin; have _t := HO5; refine wpList_append_frs (by rfl) _ _ rfl w.heap.size _ fs rfl (World.ownsRow.alloc (owns_below HOT.out.1 HO5.out.2.1) _) (Nat.le_trans (Nat.le_trans HOT.out.2.1 HO5.out.2.1.size) (by simp)) (some ⟨w5.heap.size, 0, none⟩) 1 [(⟨ga, gc, PC⟩ : Fr)] rfl (fcells_new w5 ⟨ga, gc, PC⟩) (fun e => by cases e) (by have := HFL.out; simp; omega) ?_; intro T' w6 h1 h2 h3; have HE : Hid (ML w pm R (w6.setCell ⟨pm, 0, none⟩ (.slice (cutA a c (4 + N)) (X.length - (4 + N)) (c - (4 + N)))) (X.drop (4 + N)) (cutA a c (4 + N)) (c - (4 + N)) T' (fs ++ [(⟨ga, gc, PC⟩ : Fr)])) := HNX.out w5 w6 _ v5 T' ga gc HO5.out.1 HO5.out.2.1 HO5.out.2.2 h1 h2; have hb6 : w6.heap[pm]? = wr.heap[pm]? := (by rw [h2.block pm (by have := HO5.out.2.1.size; simp; omega) (fun e => HOT.out.2.2 pm e.symm rfl), heap_alloc_old w5 _ (by have := HO5.out.2.1.size; omega)]; exact HO5.out.2.1.block pm hpmr); have z06 : w6.cell? ⟨pm, 0, none⟩ = some (.slice a X.length c) := (World.cell?_of_block (a := ⟨pm, 0, none⟩) hb6).trans z0; have zf06 : w6.frozen? ⟨pm, 0, none⟩ = false := (World.frozen?_of_block (a := ⟨pm, 0, none⟩) hb6).trans zf0; clear h1 h2 h3 _t hb6))
      refine ⟨⟨X.drop (4 + N), _, _, _, by rw [List.length_drop]; omega, HE.out⟩, ?_⟩
      unfold lenAt
      rw [World.cell?_setCell_same (u := .slice a X.length c) _ _ _ z06, z0]
      show X.length - (4 + N) < X.length
      omega
/-- The document's Feed, whatever its Feeder is. -/
theorem mfeed_any (pm : Nat) (a : Option Addr) (c : Nat) (q : List Nat) (sh : Bool) (b : Option Addr) (cap : Nat) (l : List Nat) (w : World) (h : MIs w pm a c q sh) (hi : InE w [pm] b cap l) (hq : q.length ≤ 10000) (hl : l.length ≤ 100000) :
    Calls Try.prog 13 #[.pointer (some ⟨pm, 0, none⟩), .slice b l.length cap] w fun e w' => FDM w pm (feedS sh q l) e w' := by
  cases sh
  · exact mfeed_open pm a c q b cap l w h hi hq hl
  · refine (mfeed_shut pm a c q b l.length cap w h).mono ?_
    rintro e w' ⟨rfl, rfl⟩
    obtain ⟨ha, hqq⟩ := h.off rfl
    refine ⟨.slice none 0 0, [], a, c, rfl, World.ownsRow_nil _ _ _ _, rfl, AllF.nil _ _, ?_, Keeps.refl _ _, fun y hy => by rw [ha] at hy; cases hy⟩
    show MIs w' pm a c [] true
    rw [← hqq]
    exact h
end Go.Proofs.Ythbomgjjdmogpaa
