/- batch's Encode and Check. -/
import Derived.Test.YtaooidckmepdeaaDoorBx
namespace Go.Proofs.YtaooidckmepdeaaDoor
set_option linter.unusedSimpArgs false
set_option linter.unusedVariables false
open Go.RowKit
/-- And the head's array, the records' bytes. -/
structure EncS (w : World) (cs : Array Value) (H : Nat) (h : List Nat) (ra : Option Addr) (L : List Nat) (x : World) : Prop where
  bx : BxS w cs x
  arr : x.heap[H]? = some (.cells (cv h).toArray 155 (0, 0))
  row : Row x ra L
  tab : Tab x
  lt : w.heap.size < H
  rlt : ∀ i, i < L.length → ∃ ad, ra = some ad ∧ ad.block < H
theorem EncS.below {w x y : World} {cs : Array Value} {H : Nat} {h L : List Nat} {ra : Option Addr} (s : EncS w cs H h ra L x) (hb : Below x.heap.size x y) : EncS w cs H h ra L y :=
  ⟨s.bx.below hb, (hb.block _ (Array.getElem?_eq_some_iff.1 s.arr).1).trans s.arr, s.row.below hb, s.tab.below hb, s.lt, s.rlt⟩
theorem EncS.store {w x : World} {cs : Array Value} {H : Nat} {h L : List Nat} {ra : Option Addr} (s : EncS w cs H h ra L x) (h' : List Nat) : EncS w cs H h' ra L (x.setRow H (cv h').toArray) := by
  have ho : ∀ k, k ≠ H → (x.setRow H (cv h').toArray).heap[k]? = x.heap[k]? := fun k hk => setRow_other x H k _ hk
  have hlt := s.lt
  have hcell : ∀ b o, b < H → (x.setRow H (cv h').toArray).cell? ⟨b, o, none⟩ = x.cell? ⟨b, o, none⟩ := fun b o hb => (below_setRow (Below.refl H x) (Nat.le_refl H) _).cell hb
  refine ⟨⟨by rw [ho _ (by omega)]; exact s.bx.box, below_setRow s.bx.bel (by omega) _⟩, setRow_heap _ _ _ _ _ _ s.arr, ?_, ?_, hlt, s.rlt⟩
  · intro i hi
    obtain ⟨b, off, e, hc, hl⟩ := s.row i hi
    obtain ⟨ad, e2, hb⟩ := s.rlt i hi
    rw [e] at e2
    injection e2 with e2
    subst e2
    exact ⟨b, off, e, by rw [hcell _ _ hb]; exact hc, hl⟩
  · intro i hi
    rw [hcell 0 i (by omega)]
    exact s.tab i hi
theorem EncS.arow {w x : World} {cs : Array Value} {H : Nat} {h L : List Nat} {ra : Option Addr} (s : EncS w cs H h ra L x) (hb : ∀ i, h.getD i 0 < 256) : Row x (some ⟨H, 0, none⟩) h := by
  intro i hi
  refine ⟨H, 0, rfl, ?_, hb i⟩
  rw [cell_of_row _ H (0 + i) (cv h).toArray 155 (0, 0) s.arr]
  simpa using cv_get h i hi
theorem row_from {w : World} {H : Nat} {h : List Nat} (k : Nat) (hr : Row w (some ⟨H, 0, none⟩) h) : Row w (some ⟨H, k, none⟩) (h.drop k) := by
  intro i hi
  rw [List.length_drop] at hi
  obtain ⟨b, off, e, hc, hl⟩ := hr (k + i) (by omega)
  simp only [Option.some.injEq, Addr.mk.injEq, and_true] at e
  obtain ⟨rfl, rfl⟩ := e
  have eg : (h.drop k).getD i 0 = h.getD (k + i) 0 := by simp [List.getD]
  rw [eg]
  exact ⟨H, k, rfl, by rw [Nat.zero_add] at hc; exact hc, hl⟩
theorem EncS.new {w x : World} {cs : Array Value} {h L : List Nat} {ra : Option Addr} (hb : BxS w cs x) (hr : Row x ra L) (ht : Tab x) : EncS w cs x.heap.size h ra L (x.alloc (.cells (cv h).toArray 155)) := by
  refine ⟨hb.below (below_box _), heap_alloc_new x _, hr.below (below_box _), ht.below (below_box _), (Array.getElem?_eq_some_iff.1 hb.box).1, ?_⟩
  intro i hi
  obtain ⟨b, off, rfl, hc, _⟩ := hr i hi
  exact ⟨⟨b, off, none⟩, rfl, by have := World.block_lt_of_cell? _ _ hc; exact this⟩
set_option maxHeartbeats 4000000 in
set_option maxRecDepth 100000 in
theorem bencode_ok (b : Ba) (a : Option Addr) (cap : Nat) (w : World) (hr : RRow w a b.rs) (hi : In64B b) (ht : Tab w) (h : chkB b = 0) :
    Calls Tryd.prog 83 #[bav b a cap] w fun e w' => ∃ g, e = .returned (.tuple #[.slice (some ⟨g, 0, none⟩) (encBL b).length (encBL b).length, .int .i64 0]) ∧ Own w.heap.size w' g (encBL b).length (encBL b) ∧ Below w.heap.size w w' := by
  obtain ⟨hw, h6⟩ := chk_parts h
  obtain ⟨⟨b0, b1⟩, ⟨s0, s1⟩, q0, q1, r0, hri, hc⟩ := wr_ok hw
  obtain ⟨f0, f1⟩ := (time_iff _).1 (wr_time hw)
  have hft := wr_time hw
  have hlen := (wr_len hw).1
  obtain ⟨i0, i1⟩ := hi
  obtain ⟨bn, ebn⟩ := Int.eq_ofNat_of_zero_le b0
  obtain ⟨sn, esn⟩ := Int.eq_ofNat_of_zero_le (show 0 ≤ b.span by omega)
  obtain ⟨pn, epn⟩ := Int.eq_ofNat_of_zero_le q0
  obtain ⟨qn, eqn⟩ := Int.eq_ofNat_of_zero_le q1
  obtain ⟨fn, efn⟩ := Int.eq_ofNat_of_zero_le f0
  have HW : Hid (∀ w, RRow w a b.rs → Calls Tryd.prog 88 #[bav b a cap] w fun e w' => e = .returned (.int .i64 0) ∧ Below w.heap.size w w') := by
    intro w hr
    have := wrong_any b a cap w hr (by unfold maxLen; omega)
    rw [hw] at this
    exact this
  have HBO : Hid (∀ w, RRow w a b.rs → Calls Tryd.prog 89 #[.slice a b.rs.length cap, .int .i64 (frs b)] w fun e w' => ∃ v, e = .returned v ∧ w'.ownsRow w.heap.size 5 1 v (bodyL b.rs (frs b)).length (cv (bodyL b.rs (frs b))) ∧ Below w.heap.size w w') := fun w hr => body_any a cap b.rs (frs b) w hr hlen hc hft
  have HR4 : Hid (∀ w, RRow w a b.rs → ∃ x off, a = some ⟨x, off, none⟩ ∧ w.cell? ⟨x, off + 4, none⟩ = some (.int .i64 (frs b))) := by
    intro w hr
    obtain ⟨x, off, e, _, _, _, _, z4, _⟩ := hr 0 r0
    rw [Nat.zero_mul, Nat.add_zero] at z4
    exact ⟨x, off, e, z4⟩
  have HLB : Hid (∀ i, (bodyL b.rs (frs b)).getD i 0 < 256) := lt_mem (body_mem hft hc)
  have hencE := hd_enc b
  have htl := tail_len b
  have htm : ∀ x, x ∈ tailL b → x < 256 := fun x hx => encB_mem hw x (by unfold encBL; exact List.mem_append_right _ hx)
  have hsl := sum_lt (tailL b) htm
  have htd : tailL b = midL b.prod.toNat b.seq.toNat b.span.toNat b.rs.length (frs b).toNat ++ bodyL b.rs (frs b) := rfl
  obtain ⟨ln, eln⟩ : ∃ ln, Hid ((tailL b).length + 4 = ln) := ⟨_, rfl⟩
  obtain ⟨un, eun⟩ : ∃ un, Hid (P.sum (tailL b) = un) := ⟨_, rfl⟩
  rw [eln.out, eun.out] at hencE
  have hln : ln = 36 + (bodyL b.rs (frs b)).length := by rw [← eln.out]; omega
  have hmm : P.more (P.sum (midL b.prod.toNat b.seq.toNat b.span.toNat b.rs.length (frs b).toNat)) (bodyL b.rs (frs b)) = un := by
    rw [← eun.out, htd]
    exact P.more_append 0 _ _
  have hsm : P.sum (midL b.prod.toNat b.seq.toNat b.span.toNat b.rs.length (frs b).toNat) < 4294967296 := sum_lt _ (fun x hx => htm x (by rw [htd]; exact List.mem_append_left _ hx))
  rw [eun.out] at hsl
  have e1 : b.base.toNat = bn := by omega
  have e2 : b.span.toNat = sn := by omega
  have e3 : b.prod.toNat = pn := by omega
  have e4 : b.seq.toNat = qn := by omega
  have e5 : (frs b).toNat = fn := by omega
  rw [e1, e2, e3, e4, e5] at hencE
  rw [e2, e3, e4, e5] at hmm hsm
  have hL6 : (bodyL b.rs (frs b)).length ≤ 5952 := by omega
  rw [← hencE]
  generalize bodyL b.rs (frs b) = L at *
  rw [efn] at HBO HR4
  have f1 : (fn : Int) ≤ 1125899906842624 := by rw [← efn]; exact f1
  clear hencE efn htl htm htd eln eun hw h6 hri hc hft e1 e2 e3 e4 e5 h
  obtain ⟨base, span, prod, seq, rs⟩ := b
  simp only at *
  subst ebn esn epn eqn
  simp only [bav] at HW ⊢
  have HZ0 : Hid ((cv (hd 0 0 0 0 0 0 0 0)).toArray.size = 48) := arr_size (by rw [cv_length, hd_len])
  have HS0 : Hid ((Tryd.prog.info? 155).map (·.size) = some (cv (hd 0 0 0 0 0 0 0 0)).toArray.size) := by show _ = _; rw [HZ0.out]; exact Tryd.info155
  have HZ1 : Hid ((cv (hd bn 0 0 0 0 0 0 0)).toArray.size = 48) := arr_size (by rw [cv_length, hd_len])
  have HS1 : Hid ((Tryd.prog.info? 155).map (·.size) = some (cv (hd bn 0 0 0 0 0 0 0)).toArray.size) := by show _ = _; rw [HZ1.out]; exact Tryd.info155
  have HZ2 : Hid ((cv (hd bn ln 0 0 0 0 0 0)).toArray.size = 48) := arr_size (by rw [cv_length, hd_len])
  have HS2 : Hid ((Tryd.prog.info? 155).map (·.size) = some (cv (hd bn ln 0 0 0 0 0 0)).toArray.size) := by show _ = _; rw [HZ2.out]; exact Tryd.info155
  have HZ3 : Hid ((cv (hd bn ln 0 pn 0 0 0 0)).toArray.size = 48) := arr_size (by rw [cv_length, hd_len])
  have HS3 : Hid ((Tryd.prog.info? 155).map (·.size) = some (cv (hd bn ln 0 pn 0 0 0 0)).toArray.size) := by show _ = _; rw [HZ3.out]; exact Tryd.info155
  have HZ4 : Hid ((cv (hd bn ln 0 pn qn 0 0 0)).toArray.size = 48) := arr_size (by rw [cv_length, hd_len])
  have HS4 : Hid ((Tryd.prog.info? 155).map (·.size) = some (cv (hd bn ln 0 pn qn 0 0 0)).toArray.size) := by show _ = _; rw [HZ4.out]; exact Tryd.info155
  have HZ5 : Hid ((cv (hd bn ln 0 pn qn sn 0 0)).toArray.size = 48) := arr_size (by rw [cv_length, hd_len])
  have HS5 : Hid ((Tryd.prog.info? 155).map (·.size) = some (cv (hd bn ln 0 pn qn sn 0 0)).toArray.size) := by show _ = _; rw [HZ5.out]; exact Tryd.info155
  have HZ6 : Hid ((cv (hd bn ln 0 pn qn sn rs.length 0)).toArray.size = 48) := arr_size (by rw [cv_length, hd_len])
  have HS6 : Hid ((Tryd.prog.info? 155).map (·.size) = some (cv (hd bn ln 0 pn qn sn rs.length 0)).toArray.size) := by show _ = _; rw [HZ6.out]; exact Tryd.info155
  have HZ7 : Hid ((cv (hd bn ln 0 pn qn sn rs.length fn)).toArray.size = 48) := arr_size (by rw [cv_length, hd_len])
  have HS7 : Hid ((Tryd.prog.info? 155).map (·.size) = some (cv (hd bn ln 0 pn qn sn rs.length fn)).toArray.size) := by show _ = _; rw [HZ7.out]; exact Tryd.info155
  have HZ8 : Hid ((cv (hd bn ln un pn qn sn rs.length fn)).toArray.size = 48) := arr_size (by rw [cv_length, hd_len])
  have HS8 : Hid ((Tryd.prog.info? 155).map (·.size) = some (cv (hd bn ln un pn qn sn rs.length fn)).toArray.size) := by show _ = _; rw [HZ8.out]; exact Tryd.info155
  have HX0 : Hid (∀ w, Calls Tryd.prog 90 #[.agg (cv (hd 0 0 0 0 0 0 0 0)).toArray, .int .i64 0, .int .i64 8, .int .i64 (bn : Nat)] w fun e w' => e = .returned (.agg (cv (hd bn 0 0 0 0 0 0 0)).toArray) ∧ Below w.heap.size w w') := sets_of (i := 0) (k := 8) (V := bn) (hd_base 0 0 0 0 0 0 0 0 bn) (by decide) (by decide) (by decide) (by omega)
  have HX1 : Hid (∀ w, Calls Tryd.prog 90 #[.agg (cv (hd bn 0 0 0 0 0 0 0)).toArray, .int .i64 8, .int .i64 4, .int .i64 (ln : Nat)] w fun e w' => e = .returned (.agg (cv (hd bn ln 0 0 0 0 0 0)).toArray) ∧ Below w.heap.size w w') := sets_of (i := 8) (k := 4) (V := ln) (hd_length bn 0 0 0 0 0 0 0 ln) (by decide) (by decide) (by decide) (by omega)
  have HX2 : Hid (∀ w, Calls Tryd.prog 90 #[.agg (cv (hd bn ln 0 0 0 0 0 0)).toArray, .int .i64 16, .int .i64 8, .int .i64 (pn : Nat)] w fun e w' => e = .returned (.agg (cv (hd bn ln 0 pn 0 0 0 0)).toArray) ∧ Below w.heap.size w w') := sets_of (i := 16) (k := 8) (V := pn) (hd_prod bn ln 0 0 0 0 0 0 pn) (by decide) (by decide) (by decide) (by omega)
  have HX3 : Hid (∀ w, Calls Tryd.prog 90 #[.agg (cv (hd bn ln 0 pn 0 0 0 0)).toArray, .int .i64 24, .int .i64 8, .int .i64 (qn : Nat)] w fun e w' => e = .returned (.agg (cv (hd bn ln 0 pn qn 0 0 0)).toArray) ∧ Below w.heap.size w w') := sets_of (i := 24) (k := 8) (V := qn) (hd_seq bn ln 0 pn 0 0 0 0 qn) (by decide) (by decide) (by decide) (by omega)
  have HX4 : Hid (∀ w, Calls Tryd.prog 90 #[.agg (cv (hd bn ln 0 pn qn 0 0 0)).toArray, .int .i64 32, .int .i64 4, .int .i64 (sn : Nat)] w fun e w' => e = .returned (.agg (cv (hd bn ln 0 pn qn sn 0 0)).toArray) ∧ Below w.heap.size w w') := sets_of (i := 32) (k := 4) (V := sn) (hd_span bn ln 0 pn qn 0 0 0 sn) (by decide) (by decide) (by decide) (by omega)
  have HX5 : Hid (∀ w, Calls Tryd.prog 90 #[.agg (cv (hd bn ln 0 pn qn sn 0 0)).toArray, .int .i64 36, .int .i64 4, .int .i64 (rs.length : Nat)] w fun e w' => e = .returned (.agg (cv (hd bn ln 0 pn qn sn rs.length 0)).toArray) ∧ Below w.heap.size w w') := sets_of (i := 36) (k := 4) (V := rs.length) (hd_cnt bn ln 0 pn qn sn 0 0 rs.length) (by decide) (by decide) (by decide) (by omega)
  have HX6 : Hid (∀ w, Calls Tryd.prog 90 #[.agg (cv (hd bn ln 0 pn qn sn rs.length 0)).toArray, .int .i64 40, .int .i64 8, .int .i64 (fn : Nat)] w fun e w' => e = .returned (.agg (cv (hd bn ln 0 pn qn sn rs.length fn)).toArray) ∧ Below w.heap.size w w') := sets_of (i := 40) (k := 8) (V := fn) (hd_first bn ln 0 pn qn sn rs.length 0 fn) (by decide) (by decide) (by decide) (by omega)
  have HX7 : Hid (∀ w, Calls Tryd.prog 90 #[.agg (cv (hd bn ln 0 pn qn sn rs.length fn)).toArray, .int .i64 12, .int .i64 4, .int .i64 (un : Nat)] w fun e w' => e = .returned (.agg (cv (hd bn ln un pn qn sn rs.length fn)).toArray) ∧ Below w.heap.size w w') := sets_of (i := 12) (k := 4) (V := un) (hd_sum bn ln 0 pn qn sn rs.length fn un) (by decide) (by decide) (by decide) (by omega)
  have HSU : Hid (∀ w H, Tab w → Row w (some ⟨H, 0, none⟩) (hd bn ln 0 pn qn sn rs.length fn) → Calls Tryd.prog 92 #[.slice (some ⟨H, 16, none⟩) 32 32] w fun e w' => e = .returned (.int .u32 ((P.sum (midL pn qn sn rs.length fn) : Nat) : Int)) ∧ w' = w) := by
    intro w H ht hr
    have h2 := row_from 16 hr
    rw [hd_drop] at h2
    have := sum_any (some ⟨H, 16, none⟩) 32 _ w ht h2 (by rw [mid_len]; unfold maxLen; omega)
    rw [mid_len] at this
    exact this
  generalize P.sum (midL pn qn sn rs.length fn) = s7 at *
  have HMO : Hid (∀ w a k, Tab w → Row w a L → Calls Tryd.prog 91 #[.int .u32 (s7 : Nat), .slice a L.length k] w fun e w' => e = .returned (.int .u32 ((un : Nat) : Int)) ∧ w' = w) := by
    intro w a k ht hr
    have := more_any s7 a k L w ht hsm hr (by unfold maxLen; omega)
    rw [hmm] at this
    exact this
  have HHB : Hid (∀ i, (hd bn ln 0 pn qn sn rs.length fn).getD i 0 < 256) := lt_mem (hd_mem _ _ _ _ _ _ _ _)
  have HJ : Hid (∀ w a k, Row w a L → Calls Tryd.prog 93 #[.agg (cv (hd bn ln un pn qn sn rs.length fn)).toArray, .slice a L.length k] w fun e w' => ∃ g, e = .returned (.slice (some ⟨g, 0, none⟩) ((hd bn ln un pn qn sn rs.length fn) ++ L).length ((hd bn ln un pn qn sn rs.length fn) ++ L).length) ∧ Own w.heap.size w' g ((hd bn ln un pn qn sn rs.length fn) ++ L).length ((hd bn ln un pn qn sn rs.length fn) ++ L) ∧ Below w.heap.size w w') := fun w a k hr => bjoin_any _ a k L w (hd_len _ _ _ _ _ _ _ _) (lt_mem (hd_mem _ _ _ _ _ _ _ _)) hr (by omega)
  have h00 := hd_zero
  generalize (hd bn ln un pn qn sn rs.length fn) = h8 at *
  generalize (hd bn ln 0 pn qn sn rs.length fn) = h7 at *
  generalize (hd bn ln 0 pn qn sn rs.length 0) = h6 at *
  generalize (hd bn ln 0 pn qn sn 0 0) = h5 at *
  generalize (hd bn ln 0 pn qn 0 0 0) = h4 at *
  generalize (hd bn ln 0 pn 0 0 0 0) = h3 at *
  generalize (hd bn ln 0 0 0 0 0 0) = h2 at *
  generalize (hd bn 0 0 0 0 0 0 0) = h1 at *
  generalize (hd 0 0 0 0 0 0 0 0) = h0 at *
  subst h00
  generalize h8 ++ L = M at *
  have hw1 : IntKind.i64.wrap (48 + (L.length : Int)) = 48 + (L.length : Int) := by rw [IntKind.wrap_i64]; omega
  have hw2 : IntKind.i64.wrap (48 + (L.length : Int) - 12) = (ln : Int) := by rw [IntKind.wrap_i64]; omega
  have hw4 : IntKind.i64.wrap (un : Int) = (un : Int) := by rw [IntKind.wrap_i64]; omega
  have hLI : 48 + (L.length : Int) ≤ 6000 := by omega
  have hrI : (0 : Int) < (rs.length : Int) := by omega
  have HR0 : Hid (RRow w a rs) := hr
  have HT : Hid (Tab w) := ht
  obtain ⟨rb, roff, era, _⟩ := HR4.out w hr
  have hrb : rb < w.heap.size := by
    obtain ⟨x, off, e, z0, _⟩ := hr 0 r0
    rw [era] at e
    simp only [Option.some.injEq, Addr.mk.injEq, and_true] at e
    obtain ⟨rfl, rfl⟩ := e
    have := World.block_lt_of_cell? _ _ z0
    simpa using this
  subst era
  have HY4 : Hid (∀ x, Below w.heap.size w x → x.cell? ⟨rb, roff + 4, none⟩ = some (.int .i64 (fn : Int))) := by
    intro x hb
    obtain ⟨y, off, e, h⟩ := HR4.out x (RRow.below HR0.out hb)
    simp only [Option.some.injEq, Addr.mk.injEq, and_true] at e
    obtain ⟨rfl, rfl⟩ := e
    exact h
  clear hr ht hsm hmm hln b0 q0 q1 f0 s0 HR4
  go_enter Tryd.func83, Tryd.ntmps83
  go_wp2_with (first
    | (go_at_call 88; refine (HW.out _ (RRow.below HR0.out (below_box _))).mono ?_; rintro e w1 ⟨rfl, hb1⟩; have HB1 : Hid (BxS w (bcells ⟨(bn : Int), (sn : Int), (pn : Int), (qn : Int), rs⟩ (some ⟨rb, roff, none⟩) cap) w1) := BxS.below (BxS.new w _) hb1; have HRR : Hid (RRow w1 (some ⟨rb, roff, none⟩) rs) := RRow.below (RRow.below HR0.out (below_box _)) hb1; have HT1 : Hid (Tab w1) := Tab.below (Tab.below HT.out (below_box _)) hb1; obtain ⟨c0, c1, c2, c3, c4, cz⟩ := BxS.cells HB1.out; simp only at c0 c1 c2 c3 c4; have y0 := HY4.out _ HB1.out.bel; clear hb1)
    | (go_at_call 89; refine (HBO.out _ HRR.out).mono ?_; rintro e w2 ⟨v2, rfl, hown2, hb2⟩; obtain ⟨a2, k2, rfl, hr2, hn2⟩ := owns_sl hown2 HLB.out; have HB2 : Hid (BxS w (bcells ⟨(bn : Int), (sn : Int), (pn : Int), (qn : Int), rs⟩ (some ⟨rb, roff, none⟩) cap) w2) := BxS.below HB1.out hb2; have HE0z : Hid (EncS w (bcells ⟨(bn : Int), (sn : Int), (pn : Int), (qn : Int), rs⟩ (some ⟨rb, roff, none⟩) cap) w2.heap.size (List.replicate 48 0) a2 L (w2.alloc (.cells (cv (List.replicate 48 0)).toArray 155))) := EncS.new HB2.out hr2 (Tab.below HT1.out hb2); clear c0 c1 c2 c3 c4 cz HRR HT1 hown2 hb2 y0)
    | (have _t := HE0z; generalize hx0 : World.alloc w2 (Obj.cells #[.int .u8 0, .int .u8 0, .int .u8 0, .int .u8 0, .int .u8 0, .int .u8 0, .int .u8 0, .int .u8 0, .int .u8 0, .int .u8 0, .int .u8 0, .int .u8 0, .int .u8 0, .int .u8 0, .int .u8 0, .int .u8 0, .int .u8 0, .int .u8 0, .int .u8 0, .int .u8 0, .int .u8 0, .int .u8 0, .int .u8 0, .int .u8 0, .int .u8 0, .int .u8 0, .int .u8 0, .int .u8 0, .int .u8 0, .int .u8 0, .int .u8 0, .int .u8 0, .int .u8 0, .int .u8 0, .int .u8 0, .int .u8 0, .int .u8 0, .int .u8 0, .int .u8 0, .int .u8 0, .int .u8 0, .int .u8 0, .int .u8 0, .int .u8 0, .int .u8 0, .int .u8 0, .int .u8 0, .int .u8 0] 155) = x0; have HE0 : Hid (EncS w (bcells ⟨(bn : Int), (sn : Int), (pn : Int), (qn : Int), rs⟩ (some ⟨rb, roff, none⟩) cap) w2.heap.size (List.replicate 48 0) a2 L x0) := (by rw [← hx0]; exact HE0z.out); clear HE0z hx0 _t; obtain ⟨c0, c1, c2, c3, c4, cz⟩ := BxS.cells HE0.out.bx; simp only at c0 c1 c2 c3 c4; refine wpList_load_row rfl 155 _ rfl w2.heap.size rfl 155 (cv (List.replicate 48 0)).toArray (0, 0) _ HE0.out.arr Tryd.underlying155 rfl HS0.out ?_)
    | (go_at_call 90; have _t := HE0; refine (HX0.out _).mono ?_; rintro e y1 ⟨rfl, hb⟩; have HF0 : Hid (EncS w (bcells ⟨(bn : Int), (sn : Int), (pn : Int), (qn : Int), rs⟩ (some ⟨rb, roff, none⟩) cap) w2.heap.size (List.replicate 48 0) a2 L y1) := EncS.below HE0.out hb; clear hb HE0 _t c0 c1 c2 c3 c4 cz)
    | (have _t := HF0; refine wpList_store_row rfl 155 _ _ rfl w2.heap.size (cv h1).toArray rfl rfl 155 (cv (List.replicate 48 0)).toArray HF0.out.arr HS1.out (by rw [HZ0.out, HZ1.out]) (arr_one h1) ?_; have HE : Hid (EncS w (bcells ⟨(bn : Int), (sn : Int), (pn : Int), (qn : Int), rs⟩ (some ⟨rb, roff, none⟩) cap) w2.heap.size h1 a2 L (World.setRow y1 w2.heap.size (cv h1).toArray)) := EncS.store HF0.out h1; clear HF0 _t; generalize World.setRow y1 w2.heap.size (cv h1).toArray = x1 at HE ⊢; have HE1 : Hid (EncS w (bcells ⟨(bn : Int), (sn : Int), (pn : Int), (qn : Int), rs⟩ (some ⟨rb, roff, none⟩) cap) w2.heap.size h1 a2 L x1) := HE; clear HE; obtain ⟨c0, c1, c2, c3, c4, cz⟩ := BxS.cells HE1.out.bx; simp only at c0 c1 c2 c3 c4)
    | (have _t := HE1; refine wpList_load_row rfl 155 _ rfl w2.heap.size rfl 155 (cv h1).toArray (0, 0) _ HE1.out.arr Tryd.underlying155 rfl HS1.out ?_)
    | (go_at_call 90; have _t := HE1; refine (HX1.out _).mono ?_; rintro e y2 ⟨rfl, hb⟩; have HF1 : Hid (EncS w (bcells ⟨(bn : Int), (sn : Int), (pn : Int), (qn : Int), rs⟩ (some ⟨rb, roff, none⟩) cap) w2.heap.size h1 a2 L y2) := EncS.below HE1.out hb; clear hb HE1 _t c0 c1 c2 c3 c4 cz)
    | (have _t := HF1; refine wpList_store_row rfl 155 _ _ rfl w2.heap.size (cv h2).toArray rfl rfl 155 (cv h1).toArray HF1.out.arr HS2.out (by rw [HZ1.out, HZ2.out]) (arr_one h2) ?_; have HE : Hid (EncS w (bcells ⟨(bn : Int), (sn : Int), (pn : Int), (qn : Int), rs⟩ (some ⟨rb, roff, none⟩) cap) w2.heap.size h2 a2 L (World.setRow y2 w2.heap.size (cv h2).toArray)) := EncS.store HF1.out h2; clear HF1 _t; generalize World.setRow y2 w2.heap.size (cv h2).toArray = x2 at HE ⊢; have HE2 : Hid (EncS w (bcells ⟨(bn : Int), (sn : Int), (pn : Int), (qn : Int), rs⟩ (some ⟨rb, roff, none⟩) cap) w2.heap.size h2 a2 L x2) := HE; clear HE; obtain ⟨c0, c1, c2, c3, c4, cz⟩ := BxS.cells HE2.out.bx; simp only at c0 c1 c2 c3 c4)
    | (have _t := HE2; refine wpList_load_row rfl 155 _ rfl w2.heap.size rfl 155 (cv h2).toArray (0, 0) _ HE2.out.arr Tryd.underlying155 rfl HS2.out ?_)
    | (go_at_call 90; have _t := HE2; refine (HX2.out _).mono ?_; rintro e y3 ⟨rfl, hb⟩; have HF2 : Hid (EncS w (bcells ⟨(bn : Int), (sn : Int), (pn : Int), (qn : Int), rs⟩ (some ⟨rb, roff, none⟩) cap) w2.heap.size h2 a2 L y3) := EncS.below HE2.out hb; clear hb HE2 _t c0 c1 c2 c3 c4 cz)
    | (have _t := HF2; refine wpList_store_row rfl 155 _ _ rfl w2.heap.size (cv h3).toArray rfl rfl 155 (cv h2).toArray HF2.out.arr HS3.out (by rw [HZ2.out, HZ3.out]) (arr_one h3) ?_; have HE : Hid (EncS w (bcells ⟨(bn : Int), (sn : Int), (pn : Int), (qn : Int), rs⟩ (some ⟨rb, roff, none⟩) cap) w2.heap.size h3 a2 L (World.setRow y3 w2.heap.size (cv h3).toArray)) := EncS.store HF2.out h3; clear HF2 _t; generalize World.setRow y3 w2.heap.size (cv h3).toArray = x3 at HE ⊢; have HE3 : Hid (EncS w (bcells ⟨(bn : Int), (sn : Int), (pn : Int), (qn : Int), rs⟩ (some ⟨rb, roff, none⟩) cap) w2.heap.size h3 a2 L x3) := HE; clear HE; obtain ⟨c0, c1, c2, c3, c4, cz⟩ := BxS.cells HE3.out.bx; simp only at c0 c1 c2 c3 c4)
    | (have _t := HE3; refine wpList_load_row rfl 155 _ rfl w2.heap.size rfl 155 (cv h3).toArray (0, 0) _ HE3.out.arr Tryd.underlying155 rfl HS3.out ?_)
    | (go_at_call 90; have _t := HE3; refine (HX3.out _).mono ?_; rintro e y4 ⟨rfl, hb⟩; have HF3 : Hid (EncS w (bcells ⟨(bn : Int), (sn : Int), (pn : Int), (qn : Int), rs⟩ (some ⟨rb, roff, none⟩) cap) w2.heap.size h3 a2 L y4) := EncS.below HE3.out hb; clear hb HE3 _t c0 c1 c2 c3 c4 cz)
    | (have _t := HF3; refine wpList_store_row rfl 155 _ _ rfl w2.heap.size (cv h4).toArray rfl rfl 155 (cv h3).toArray HF3.out.arr HS4.out (by rw [HZ3.out, HZ4.out]) (arr_one h4) ?_; have HE : Hid (EncS w (bcells ⟨(bn : Int), (sn : Int), (pn : Int), (qn : Int), rs⟩ (some ⟨rb, roff, none⟩) cap) w2.heap.size h4 a2 L (World.setRow y4 w2.heap.size (cv h4).toArray)) := EncS.store HF3.out h4; clear HF3 _t; generalize World.setRow y4 w2.heap.size (cv h4).toArray = x4 at HE ⊢; have HE4 : Hid (EncS w (bcells ⟨(bn : Int), (sn : Int), (pn : Int), (qn : Int), rs⟩ (some ⟨rb, roff, none⟩) cap) w2.heap.size h4 a2 L x4) := HE; clear HE; obtain ⟨c0, c1, c2, c3, c4, cz⟩ := BxS.cells HE4.out.bx; simp only at c0 c1 c2 c3 c4)
    | (have _t := HE4; refine wpList_load_row rfl 155 _ rfl w2.heap.size rfl 155 (cv h4).toArray (0, 0) _ HE4.out.arr Tryd.underlying155 rfl HS4.out ?_)
    | (go_at_call 90; have _t := HE4; refine (HX4.out _).mono ?_; rintro e y5 ⟨rfl, hb⟩; have HF4 : Hid (EncS w (bcells ⟨(bn : Int), (sn : Int), (pn : Int), (qn : Int), rs⟩ (some ⟨rb, roff, none⟩) cap) w2.heap.size h4 a2 L y5) := EncS.below HE4.out hb; clear hb HE4 _t c0 c1 c2 c3 c4 cz)
    | (have _t := HF4; refine wpList_store_row rfl 155 _ _ rfl w2.heap.size (cv h5).toArray rfl rfl 155 (cv h4).toArray HF4.out.arr HS5.out (by rw [HZ4.out, HZ5.out]) (arr_one h5) ?_; have HE : Hid (EncS w (bcells ⟨(bn : Int), (sn : Int), (pn : Int), (qn : Int), rs⟩ (some ⟨rb, roff, none⟩) cap) w2.heap.size h5 a2 L (World.setRow y5 w2.heap.size (cv h5).toArray)) := EncS.store HF4.out h5; clear HF4 _t; generalize World.setRow y5 w2.heap.size (cv h5).toArray = x5 at HE ⊢; have HE5 : Hid (EncS w (bcells ⟨(bn : Int), (sn : Int), (pn : Int), (qn : Int), rs⟩ (some ⟨rb, roff, none⟩) cap) w2.heap.size h5 a2 L x5) := HE; clear HE; obtain ⟨c0, c1, c2, c3, c4, cz⟩ := BxS.cells HE5.out.bx; simp only at c0 c1 c2 c3 c4)
    | (have _t := HE5; refine wpList_load_row rfl 155 _ rfl w2.heap.size rfl 155 (cv h5).toArray (0, 0) _ HE5.out.arr Tryd.underlying155 rfl HS5.out ?_)
    | (go_at_call 90; have _t := HE5; refine (HX5.out _).mono ?_; rintro e y6 ⟨rfl, hb⟩; have HF5 : Hid (EncS w (bcells ⟨(bn : Int), (sn : Int), (pn : Int), (qn : Int), rs⟩ (some ⟨rb, roff, none⟩) cap) w2.heap.size h5 a2 L y6) := EncS.below HE5.out hb; clear hb HE5 _t c0 c1 c2 c3 c4 cz)
    | (have _t := HF5; refine wpList_store_row rfl 155 _ _ rfl w2.heap.size (cv h6).toArray rfl rfl 155 (cv h5).toArray HF5.out.arr HS6.out (by rw [HZ5.out, HZ6.out]) (arr_one h6) ?_; have HE : Hid (EncS w (bcells ⟨(bn : Int), (sn : Int), (pn : Int), (qn : Int), rs⟩ (some ⟨rb, roff, none⟩) cap) w2.heap.size h6 a2 L (World.setRow y6 w2.heap.size (cv h6).toArray)) := EncS.store HF5.out h6; clear HF5 _t; generalize World.setRow y6 w2.heap.size (cv h6).toArray = x6 at HE ⊢; have HE6 : Hid (EncS w (bcells ⟨(bn : Int), (sn : Int), (pn : Int), (qn : Int), rs⟩ (some ⟨rb, roff, none⟩) cap) w2.heap.size h6 a2 L x6) := HE; clear HE; obtain ⟨c0, c1, c2, c3, c4, cz⟩ := BxS.cells HE6.out.bx; simp only at c0 c1 c2 c3 c4)
    | (have _t := HE6; refine wpList_load_row rfl 155 _ rfl w2.heap.size rfl 155 (cv h6).toArray (0, 0) _ HE6.out.arr Tryd.underlying155 rfl HS6.out ?_)
    | (go_at_call 90; have _t := HE6; refine (HX6.out _).mono ?_; rintro e y7 ⟨rfl, hb⟩; have HF6 : Hid (EncS w (bcells ⟨(bn : Int), (sn : Int), (pn : Int), (qn : Int), rs⟩ (some ⟨rb, roff, none⟩) cap) w2.heap.size h6 a2 L y7) := EncS.below HE6.out hb; clear hb HE6 _t c0 c1 c2 c3 c4 cz)
    | (have _t := HF6; refine wpList_store_row rfl 155 _ _ rfl w2.heap.size (cv h7).toArray rfl rfl 155 (cv h6).toArray HF6.out.arr HS7.out (by rw [HZ6.out, HZ7.out]) (arr_one h7) ?_; have HE : Hid (EncS w (bcells ⟨(bn : Int), (sn : Int), (pn : Int), (qn : Int), rs⟩ (some ⟨rb, roff, none⟩) cap) w2.heap.size h7 a2 L (World.setRow y7 w2.heap.size (cv h7).toArray)) := EncS.store HF6.out h7; clear HF6 _t; generalize World.setRow y7 w2.heap.size (cv h7).toArray = x7 at HE ⊢; have HE7 : Hid (EncS w (bcells ⟨(bn : Int), (sn : Int), (pn : Int), (qn : Int), rs⟩ (some ⟨rb, roff, none⟩) cap) w2.heap.size h7 a2 L x7) := HE; clear HE; obtain ⟨c0, c1, c2, c3, c4, cz⟩ := BxS.cells HE7.out.bx; simp only at c0 c1 c2 c3 c4)
    | (go_at_call 92; refine (HSU.out _ _ HE7.out.tab (EncS.arow HE7.out HHB.out)).mono ?_; rintro e w8 ⟨rfl, hw⟩; subst w8)
    | (go_at_call 91; refine (HMO.out _ a2 k2 HE7.out.tab HE7.out.row).mono ?_; rintro e w9 ⟨rfl, hw⟩; subst w9)
    | (have _t := HE7; refine wpList_load_row rfl 155 _ rfl w2.heap.size rfl 155 (cv h7).toArray (0, 0) _ HE7.out.arr Tryd.underlying155 rfl HS7.out ?_)
    | (go_at_call 90; have _t := HE7; refine (HX7.out _).mono ?_; rintro e y8 ⟨rfl, hb⟩; have HF7 : Hid (EncS w (bcells ⟨(bn : Int), (sn : Int), (pn : Int), (qn : Int), rs⟩ (some ⟨rb, roff, none⟩) cap) w2.heap.size h7 a2 L y8) := EncS.below HE7.out hb; clear hb HE7 _t c0 c1 c2 c3 c4 cz)
    | (have _t := HF7; refine wpList_store_row rfl 155 _ _ rfl w2.heap.size (cv h8).toArray rfl rfl 155 (cv h7).toArray HF7.out.arr HS8.out (by rw [HZ7.out, HZ8.out]) (arr_one h8) ?_; have HE : Hid (EncS w (bcells ⟨(bn : Int), (sn : Int), (pn : Int), (qn : Int), rs⟩ (some ⟨rb, roff, none⟩) cap) w2.heap.size h8 a2 L (World.setRow y8 w2.heap.size (cv h8).toArray)) := EncS.store HF7.out h8; clear HF7 _t; generalize World.setRow y8 w2.heap.size (cv h8).toArray = x8 at HE ⊢; have HE8 : Hid (EncS w (bcells ⟨(bn : Int), (sn : Int), (pn : Int), (qn : Int), rs⟩ (some ⟨rb, roff, none⟩) cap) w2.heap.size h8 a2 L x8) := HE; clear HE; obtain ⟨c0, c1, c2, c3, c4, cz⟩ := BxS.cells HE8.out.bx; simp only at c0 c1 c2 c3 c4)
    | (have _t := HE8; refine wpList_load_row rfl 155 _ rfl w2.heap.size rfl 155 (cv h8).toArray (0, 0) _ HE8.out.arr Tryd.underlying155 rfl HS8.out ?_)
    | (go_at_call 93; refine (HJ.out _ a2 k2 HE8.out.row).mono ?_; rintro e w10 ⟨g, rfl, hown, hb⟩; have HBL : Hid (Below w.heap.size w w10) := HE8.out.bx.bel.trans (hb.mono HE8.out.bx.bel.size)))
  go_ret2
  exact ⟨g, rfl, own_le hown HE8.out.bx.bel.size, HBL.out⟩
set_option maxRecDepth 100000 in
theorem bencode_big (b : Ba) (a : Option Addr) (cap : Nat) (w : World) (hr : RRow w a b.rs) (hw : wrE b = 0) (h : chkB b ≠ 0) :
    Calls Tryd.prog 83 #[bav b a cap] w fun e w' => e = .returned (.tuple #[.slice none 0 0, .int .i64 2]) ∧ Below w.heap.size w w' := by
  obtain ⟨_, _, _, _, r0, hri, hc⟩ := wr_ok hw
  have hft := wr_time hw
  have hlen := (wr_len hw).1
  have hL : 6000 < 48 + (bodyL b.rs (frs b)).length := by
    unfold chkB at h
    rw [if_pos hw] at h
    split at h
    · assumption
    · exact absurd rfl h
  have hL2 := body_len (frs b) hc
  have HW : Hid (∀ w, RRow w a b.rs → Calls Tryd.prog 88 #[bav b a cap] w fun e w' => e = .returned (.int .i64 0) ∧ Below w.heap.size w w') := by
    intro w hr
    have := wrong_any b a cap w hr (by unfold maxLen; omega)
    rw [hw] at this
    exact this
  have HBO : Hid (∀ w, RRow w a b.rs → Calls Tryd.prog 89 #[.slice a b.rs.length cap, .int .i64 (frs b)] w fun e w' => ∃ v, e = .returned v ∧ w'.ownsRow w.heap.size 5 1 v (bodyL b.rs (frs b)).length (cv (bodyL b.rs (frs b))) ∧ Below w.heap.size w w') := fun w hr => body_any a cap b.rs (frs b) w hr hlen hc hft
  have HR4 : Hid (∀ w, RRow w a b.rs → ∃ x off, a = some ⟨x, off, none⟩ ∧ x < w.heap.size ∧ w.cell? ⟨x, off + 4, none⟩ = some (.int .i64 (frs b))) := by
    intro w hr
    obtain ⟨x, off, e, z0, _, _, _, z4, _⟩ := hr 0 r0
    rw [Nat.zero_mul, Nat.add_zero] at z4
    have := World.block_lt_of_cell? _ _ z0
    exact ⟨x, off, e, by simpa using this, z4⟩
  have HLB : Hid (∀ i, (bodyL b.rs (frs b)).getD i 0 < 256) := lt_mem (body_mem hft hc)
  generalize bodyL b.rs (frs b) = L at *
  generalize frs b = fr at *
  clear h hw hc hri hft
  obtain ⟨base, span, prod, seq, rs⟩ := b
  simp only [bav] at *
  obtain ⟨rb, roff, rfl, hrb, _⟩ := HR4.out w hr
  have HR0 : Hid (RRow w (some ⟨rb, roff, none⟩) rs) := hr
  have HY4 : Hid (∀ x, Below w.heap.size w x → x.cell? ⟨rb, roff + 4, none⟩ = some (.int .i64 fr)) := by
    intro x hb
    obtain ⟨y, off, e, _, h⟩ := HR4.out x (RRow.below HR0.out hb)
    simp only [Option.some.injEq, Addr.mk.injEq, and_true] at e
    obtain ⟨rfl, rfl⟩ := e
    exact h
  clear hr HR4
  have hw1 : IntKind.i64.wrap (48 + (L.length : Int)) = 48 + (L.length : Int) := by rw [IntKind.wrap_i64]; omega
  have hLI : 6000 < 48 + (L.length : Int) := by omega
  have hrI : (0 : Int) < (rs.length : Int) := by omega
  go_enter Tryd.func83, Tryd.ntmps83
  go_wp2_with (first
    | (go_at_call 88; refine (HW.out _ (RRow.below HR0.out (below_box _))).mono ?_; rintro e w1 ⟨rfl, hb1⟩; have HB1 : Hid (BxS w (bcells ⟨base, span, prod, seq, rs⟩ (some ⟨rb, roff, none⟩) cap) w1) := BxS.below (BxS.new w _) hb1; have HRR : Hid (RRow w1 (some ⟨rb, roff, none⟩) rs) := RRow.below (RRow.below HR0.out (below_box _)) hb1; obtain ⟨c0, c1, c2, c3, c4, cz⟩ := BxS.cells HB1.out; simp only at c0 c1 c2 c3 c4; have y0 := HY4.out _ HB1.out.bel; clear hb1)
    | (go_at_call 89; refine (HBO.out _ HRR.out).mono ?_; rintro e w2 ⟨v2, rfl, hown2, hb2⟩; obtain ⟨a2, k2, rfl, hr2, hn2⟩ := owns_sl hown2 HLB.out; have HB2 : Hid (Below w.heap.size w w2) := HB1.out.bel.trans (hb2.mono HB1.out.bel.size); clear hown2 hr2 hn2))
  go_ret2
  exact ⟨rfl, HB2.out⟩
set_option maxRecDepth 100000 in
theorem bencode_no (b : Ba) (a : Option Addr) (cap : Nat) (w : World) (hr : RRow w a b.rs) (hl : b.rs.length ≤ maxLen) (hw : wrE b ≠ 0) :
    Calls Tryd.prog 83 #[bav b a cap] w fun e w' => e = .returned (.tuple #[.slice none 0 0, .int .i64 (wrE b)]) ∧ Below w.heap.size w w' := by
  have HW : Hid (∀ w, RRow w a b.rs → Calls Tryd.prog 88 #[bav b a cap] w fun e w' => e = .returned (.int .i64 (wrE b)) ∧ Below w.heap.size w w') := fun w hr => wrong_any b a cap w hr hl
  have hne : (wrE b != 0) = true := by rw [bne_iff_ne]; exact hw
  generalize wrE b = c at *
  obtain ⟨base, span, prod, seq, rs⟩ := b
  simp only [bav] at *
  have HR0 : Hid (RRow w a rs) := hr
  clear hr hw
  go_enter Tryd.func83, Tryd.ntmps83
  go_wp2_with (go_at_call 88; refine (HW.out _ (RRow.below HR0.out (below_box _))).mono ?_; rintro e w1 ⟨rfl, hb1⟩; have HB1 : Hid (Below w.heap.size w w1) := (below_box _).trans (hb1.mono (by simp)))
  go_ret2
  exact ⟨rfl, HB1.out⟩
/-- What Encode leaves: the bytes, or nothing. -/
def BEnc (f : Nat) (b : Ba) (a : Option Addr) (cap : Nat) : Prop := ∀ w, Tab w → RRow w a b.rs → Calls Tryd.prog f #[bav b a cap] w fun e w' => ∃ v, e = .returned (.tuple #[v, .int .i64 (chkB b)]) ∧ w'.ownsRow w.heap.size 5 1 v (encBR b).length (cv (encBR b)) ∧ Below w.heap.size w w'
theorem bencode_any (b : Ba) (a : Option Addr) (cap : Nat) (hi : In64B b) (hl : b.rs.length ≤ maxLen) : BEnc 83 b a cap := fun w ht hr => by
  by_cases hw : wrE b = 0
  · by_cases h : chkB b = 0
    · have hR : encBR b = encBL b := by unfold encBR; rw [if_pos h]
      rw [h, hR]
      refine (bencode_ok b a cap w hr hi ht h).mono ?_
      rintro e w' ⟨g, rfl, ho, hb⟩
      exact ⟨_, rfl, ho, hb⟩
    · have hR : encBR b = [] := by unfold encBR; rw [if_neg h]
      have h2 : chkB b = 2 := by
        unfold chkB at h ⊢
        rw [if_pos hw] at h ⊢
        split
        · rfl
        · rename_i hn; rw [if_neg hn] at h; exact absurd rfl h
      rw [h2, hR]
      refine (bencode_big b a cap w hr hw h).mono ?_
      rintro e w' ⟨rfl, hb⟩
      exact ⟨_, rfl, World.ownsRow_nil _ _ _ _, hb⟩
  · have h2 : chkB b = wrE b := by unfold chkB; rw [if_neg hw]
    have hR : encBR b = [] := by unfold encBR; rw [h2, if_neg hw]
    rw [h2, hR]
    refine (bencode_no b a cap w hr hl hw).mono ?_
    rintro e w' ⟨rfl, hb⟩
    exact ⟨_, rfl, World.ownsRow_nil _ _ _ _, hb⟩
end Go.Proofs.YtaooidckmepdeaaDoor
