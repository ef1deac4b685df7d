/- Rk Rx Ry Px Py -/
import Derived.Test.YtaooidckmepdeaaGreatDoorSkh
import Derived.Deep.RegionHeld3
namespace Go.Proofs.YtaooidckmepdeaaGreatDoor
set_option linter.unusedSimpArgs false
set_option linter.unusedVariables false
open Go.RowKit
set_option maxHeartbeats 2000000 in
set_option maxRecDepth 100000 in
theorem rbody_any (b : Ba) (a : Option Addr) (cap : Nat) (w : World) (hr : RRow w a b.rs) (hi : In64B b) (hw : wrE b = 0) :
    Calls Tryz.prog 80 #[bav b a cap] w fun e w' => ∃ v, e = .returned v ∧ w'.ownsRow w.heap.size 5 1 v (tailL b).length (cv (tailL b)) ∧ Below w.heap.size w w' := by
  obtain ⟨⟨b0, b1⟩, ⟨s0, s1⟩, q0, q1, r0, hri, hc⟩ := wr_ok hw
  obtain ⟨f0, f1⟩ := (time_iff _).1 (wr_time hw)
  have hft := wr_time hw
  have hlen := (wr_len hw).1
  obtain ⟨i0, i1⟩ := hi
  obtain ⟨bn, ebn⟩ := Int.eq_ofNat_of_zero_le b0
  obtain ⟨sn, esn⟩ := Int.eq_ofNat_of_zero_le (show 0 ≤ b.span by omega)
  obtain ⟨pn, epn⟩ := Int.eq_ofNat_of_zero_le q0
  obtain ⟨qn, eqn⟩ := Int.eq_ofNat_of_zero_le q1
  obtain ⟨fn, efn⟩ := Int.eq_ofNat_of_zero_le f0
  have HF0 : Hid (frs b = (fn : Int)) := efn
  have htl : tailL b = midL pn qn sn b.rs.length fn ++ bodyL b.rs (frs b) := by
    unfold tailL
    rw [epn, eqn, esn]
    have : (frs b).toNat = fn := by omega
    rw [this]
    rfl
  obtain ⟨F, HF⟩ : ∃ F : Nat → List Nat, Hid (∀ k, midL pn qn sn b.rs.length fn ++ bodyL (b.rs.take k) (frs b) = F k) := ⟨_, fun _ => rfl⟩
  have HS : Hid (∀ k, k < b.rs.length → F (k + 1) = F k ++ encL (b.rs.getD k rz) (fn : Int)) := fun k hk => by rw [← HF.out, ← HF.out, body_take b.rs (frs b) k hk, List.append_assoc, HF0.out]
  have HFz : Hid (F 0 = ((((([] ++ lay 8 pn) ++ lay 8 qn) ++ lay 4 sn) ++ lay 4 b.rs.length) ++ lay 8 fn)) := by
    show _ = _
    rw [← HF.out]
    simp [midL, bodyL]
  have HA : Hid (F b.rs.length = tailL b) := by show _ = _; rw [← HF.out, List.take_length, htl]
  have HFl : Hid (∀ k, (F k).length ≤ 600000) := fun k => by
    rw [← HF.out, List.length_append, mid_len]
    have := body_len (frs b) (fun r hr => hc r (List.mem_of_mem_take (i := k) hr))
    rw [List.length_take] at this
    omega
  have HEn : Hid (∀ k, k < b.rs.length → Enc 94 (b.rs.getD k rz) (fn : Int)) := fun k hk => by rw [← HF0.out]; exact renc_of (hc _ (getD_mem hk)) hft
  have HEL : Hid (∀ k, k < b.rs.length → (encL (b.rs.getD k rz) (fn : Int)).length ≤ 5000) := fun k hk => by
    obtain ⟨_, _, _, _, k1, v1, _⟩ := chk_ok (hc _ (getD_mem hk))
    exact encL_len _ _ k1 v1
  have HR4 : Hid (∀ w, RRow w a b.rs → ∃ x off, a = some ⟨x, off, none⟩ ∧ w.cell? ⟨x, off + 4, none⟩ = some (.int .i64 (fn : Int))) := by
    intro w hr
    obtain ⟨x, off, e, _, _, _, _, z4, _⟩ := hr 0 r0
    rw [Nat.zero_mul, Nat.add_zero, show (b.rs.getD 0 rz).t = (fn : Int) from HF0.out] at z4
    exact ⟨x, off, e, z4⟩
  rw [← HA.out]
  clear HA htl hri hc hft hw HF
  obtain ⟨base, span, prod, seq, rs⟩ := b
  simp only at *
  subst ebn esn epn eqn
  simp only [bav]
  have hwp : IntKind.u64.wrap (pn : Int) = (pn : Int) := by rw [IntKind.wrap_u64]; omega
  have hwq : IntKind.u64.wrap (qn : Int) = (qn : Int) := by rw [IntKind.wrap_u64]; omega
  have hws : IntKind.u64.wrap (sn : Int) = (sn : Int) := by rw [IntKind.wrap_u64]; omega
  have hwf : IntKind.u64.wrap (fn : Int) = (fn : Int) := by rw [IntKind.wrap_u64]; omega
  have hwc : IntKind.u64.wrap (rs.length : Int) = (rs.length : Int) := by rw [IntKind.wrap_u64]; omega
  have hrI : (0 : Int) < (rs.length : Int) := by omega
  have HR0 : Hid (RRow w a rs) := hr
  have tok1 : True := trivial
  obtain ⟨rb, roff, era, _⟩ := HR4.out w hr
  have hrb : rb < w.heap.size := by
    obtain ⟨x, off, e, z0, _⟩ := hr 0 r0
    rw [era] at e
    simp only [Option.some.injEq, Addr.mk.injEq, and_true] at e
    obtain ⟨rfl, rfl⟩ := e
    have := World.block_lt_of_cell? _ _ z0
    simpa using this
  subst era
  have HY4 : Hid (∀ x, Below w.heap.size w x → x.cell? ⟨rb, roff + 4, none⟩ = some (.int .i64 (fn : Int))) := by
    intro x hb
    obtain ⟨y, off, e, h⟩ := HR4.out x (RRow.below HR0.out hb)
    simp only [Option.some.injEq, Addr.mk.injEq, and_true] at e
    obtain ⟨rfl, rfl⟩ := e
    exact h
  have hfb : (fn : Int) ≤ 1125899906842624 := by rw [← HF0.out]; exact f1
  clear hr HR4 b0 q0 q1 f0 f1 HF0 efn
  obtain ⟨u, HU⟩ : ∃ u, Hid (w.alloc (.cells #[.int .i64 (bn : Int), .int .i64 (sn : Int), .int .i64 (pn : Int), .int .i64 (qn : Int), .slice (some ⟨rb, roff, none⟩) rs.length cap] 88) = u) := ⟨_, rfl⟩
  have HUB : Hid (BxS w (bcells ⟨(bn : Int), (sn : Int), (pn : Int), (qn : Int), rs⟩ (some ⟨rb, roff, none⟩) cap) u) := by have := BxS.new w (bcells ⟨(bn : Int), (sn : Int), (pn : Int), (qn : Int), rs⟩ (some ⟨rb, roff, none⟩) cap); rw [show w.alloc (.cells (bcells ⟨(bn : Int), (sn : Int), (pn : Int), (qn : Int), rs⟩ (some ⟨rb, roff, none⟩) cap) 88) = u from HU.out] at this; exact this
  have HL1 : Hid (([] ++ lay 8 pn).length ≤ 1000) := by show _ ≤ _; simp [lay_len]
  have HL2 : Hid ((([] ++ lay 8 pn) ++ lay 8 qn).length ≤ 1000) := by show _ ≤ _; simp [lay_len]
  have HL3 : Hid (((([] ++ lay 8 pn) ++ lay 8 qn) ++ lay 4 sn).length ≤ 1000) := by show _ ≤ _; simp [lay_len]
  have HL4 : Hid ((((([] ++ lay 8 pn) ++ lay 8 qn) ++ lay 4 sn) ++ lay 4 rs.length).length ≤ 1000) := by show _ ≤ _; simp [lay_len]
  have HX1 : Hid _ := fun v x l hl h1 h2 => lay_any v l 8 pn x u u.heap.size h1 h2 (Nat.le_refl _) hl (by omega) (by omega)
  have HX2 : Hid _ := fun v x l hl h1 h2 => lay_any v l 8 qn x u u.heap.size h1 h2 (Nat.le_refl _) hl (by omega) (by omega)
  have HX3 : Hid _ := fun v x l hl h1 h2 => lay_any v l 4 sn x u u.heap.size h1 h2 (Nat.le_refl _) hl (by omega) (by omega)
  have HX4 : Hid _ := fun v x l hl h1 h2 => lay_any v l 4 rs.length x u u.heap.size h1 h2 (Nat.le_refl _) hl (by omega) (by omega)
  have HX5 : Hid _ := fun v x l hl h1 h2 => lay_any v l 8 fn x u u.heap.size h1 h2 (Nat.le_refl _) hl (by omega) (by omega)
  generalize lay 8 pn = l1 at *
  generalize lay 8 qn = l2 at *
  generalize lay 4 sn = l3 at *
  generalize lay 4 rs.length = l4 at *
  generalize lay 8 fn = l5 at *
  go_enter Tryz.func80, Tryz.ntmps80
  go_wp2_with (first
    | (go_at_call 35; have _t := tok1; rw [HU.out]; refine (HX1.out _ _ [] (by simp) (World.ownsRow_nil _ _ _ _) (Below.refl _ _)).mono ?_; clear tok1 _t; rintro e x1 ⟨v1, rfl, hown1, hb1⟩; have HB1 : Hid (BxS w (bcells ⟨(bn : Int), (sn : Int), (pn : Int), (qn : Int), rs⟩ (some ⟨rb, roff, none⟩) cap) x1) := BxS.below HUB.out hb1; have hy1 := HY4.out _ HB1.out.bel; obtain ⟨c0, c1, c2, c3, c4, cz⟩ := BxS.cells HB1.out; simp only at c0 c1 c2 c3 c4)
    | (go_at_call 35; have _t := hown1; refine (HX2.out _ _ ([] ++ l1) HL1.out hown1 hb1).mono ?_; clear _t hown1 hb1 hy1 c0 c1 c2 c3 c4 cz; rintro e x2 ⟨v2, rfl, hown2, hb2⟩; have HB2 : Hid (BxS w (bcells ⟨(bn : Int), (sn : Int), (pn : Int), (qn : Int), rs⟩ (some ⟨rb, roff, none⟩) cap) x2) := BxS.below HUB.out hb2; have hy2 := HY4.out _ HB2.out.bel; obtain ⟨c0, c1, c2, c3, c4, cz⟩ := BxS.cells HB2.out; simp only at c0 c1 c2 c3 c4)
    | (go_at_call 35; have _t := hown2; refine (HX3.out _ _ (([] ++ l1) ++ l2) HL2.out hown2 hb2).mono ?_; clear _t hown2 hb2 hy2 c0 c1 c2 c3 c4 cz; rintro e x3 ⟨v3, rfl, hown3, hb3⟩; have HB3 : Hid (BxS w (bcells ⟨(bn : Int), (sn : Int), (pn : Int), (qn : Int), rs⟩ (some ⟨rb, roff, none⟩) cap) x3) := BxS.below HUB.out hb3; have hy3 := HY4.out _ HB3.out.bel; obtain ⟨c0, c1, c2, c3, c4, cz⟩ := BxS.cells HB3.out; simp only at c0 c1 c2 c3 c4)
    | (go_at_call 35; have _t := hown3; refine (HX4.out _ _ ((([] ++ l1) ++ l2) ++ l3) HL3.out hown3 hb3).mono ?_; clear _t hown3 hb3 hy3 c0 c1 c2 c3 c4 cz; rintro e x4 ⟨v4, rfl, hown4, hb4⟩; have HB4 : Hid (BxS w (bcells ⟨(bn : Int), (sn : Int), (pn : Int), (qn : Int), rs⟩ (some ⟨rb, roff, none⟩) cap) x4) := BxS.below HUB.out hb4; have hy4 := HY4.out _ HB4.out.bel; obtain ⟨c0, c1, c2, c3, c4, cz⟩ := BxS.cells HB4.out; simp only at c0 c1 c2 c3 c4)
    | (go_at_call 35; have _t := hown4; refine (HX5.out _ _ (((([] ++ l1) ++ l2) ++ l3) ++ l4) HL4.out hown4 hb4).mono ?_; clear _t hown4 hb4 hy4 c0 c1 c2 c3 c4 cz; rintro e x5 ⟨v5, rfl, hown5, hb5⟩; have HB5 : Hid (BxS w (bcells ⟨(bn : Int), (sn : Int), (pn : Int), (qn : Int), rs⟩ (some ⟨rb, roff, none⟩) cap) x5) := BxS.below HUB.out hb5; have hy5 := HY4.out _ HB5.out.bel; obtain ⟨c0, c1, c2, c3, c4, cz⟩ := BxS.cells HB5.out; simp only at c0 c1 c2 c3 c4))
  clear c0 c1 c2 c3 c4 cz hy5
  go_loopw [3, 4] (fun p i x => ∃ k : Nat, k ≤ rs.length ∧ i = .int .i64 k ∧ x.ownsRow u.heap.size 5 1 p (F k).length (cv (F k)) ∧ Below u.heap.size u x) (fun _ i _ => rs.length - (intOf i).toNat)
  case atStart => exact ⟨0, by omega, rfl, by rw [HFz.out]; exact hown5, hb5⟩
  case round =>
    clear hown5 hb5 HB1 HB2 HB3 HB4 HB5
    obtain ⟨k, hk, rfl, hown, hb⟩ := hrel
    have HB : Hid (BxS w (bcells ⟨(bn : Int), (sn : Int), (pn : Int), (qn : Int), rs⟩ (some ⟨rb, roff, none⟩) cap) wr) := BxS.below HUB.out hb
    have hy := HY4.out _ HB.out.bel
    obtain ⟨c0, c1, c2, c3, c4, cz⟩ := BxS.cells HB.out
    simp only at c0 c1 c2 c3 c4
    by_cases hlt : k < rs.length
    · have hltI : (k : Int) < (rs.length : Int) := by omega
      have HE := HEn.out k hlt
      have HL : Hid (F (k + 1) = F k ++ encL (rs.getD k rz) (fn : Int)) := HS.out k hlt
      have h5 := HFl.out k
      have h6 := HEL.out k hlt
      obtain ⟨b', off', e, z0, z1, z2, z3, z4, z5⟩ := (RRow.below HR0.out HB.out.bel) k hlt
      simp only [Option.some.injEq, Addr.mk.injEq, and_true] at e
      obtain ⟨rfl, rfl⟩ := e
      have hrx : rb < wr.heap.size := by omega
      have hz3 : u.heap.size ≤ wr.heap.size := hb.size
      unfold Enc at HE
      generalize rs.getD k rz = r at *
      generalize encL r (fn : Int) = L at *
      have HEn2 : Hid _ := HE
      clear HE
      obtain ⟨hk', kk, hv, v, t, o⟩ := r
      simp only at z0 z1 z2 z3 z4 z5
      simp only [Rc.cells] at HEn2
      have hS0 : (fun y : World => y.cell? ⟨w.heap.size, 4, none⟩ = some (.slice (some ⟨rb, roff, none⟩) rs.length cap) ∧ y.cell? ⟨rb, roff + 4, none⟩ = some (.int .i64 (fn : Int)) ∧ y.cell? ⟨rb, roff + k * 6, none⟩ = some (.bool hk') ∧ y.cell? ⟨rb, roff + k * 6 + 1, none⟩ = some (.string kk) ∧ y.cell? ⟨rb, roff + k * 6 + 2, none⟩ = some (.bool hv) ∧ y.cell? ⟨rb, roff + k * 6 + 3, none⟩ = some (.string v) ∧ y.cell? ⟨rb, roff + k * 6 + 4, none⟩ = some (.int .i64 t) ∧ y.cell? ⟨rb, roff + k * 6 + 5, none⟩ = some (.int .i64 o)) wr := ⟨c4, hy, z0, z1, z2, z3, z4, z5⟩
      have HKP : Hid (∀ x y, Below x.heap.size x y → (fun y : World => y.cell? ⟨w.heap.size, 4, none⟩ = some (.slice (some ⟨rb, roff, none⟩) rs.length cap) ∧ y.cell? ⟨rb, roff + 4, none⟩ = some (.int .i64 (fn : Int)) ∧ y.cell? ⟨rb, roff + k * 6, none⟩ = some (.bool hk') ∧ y.cell? ⟨rb, roff + k * 6 + 1, none⟩ = some (.string kk) ∧ y.cell? ⟨rb, roff + k * 6 + 2, none⟩ = some (.bool hv) ∧ y.cell? ⟨rb, roff + k * 6 + 3, none⟩ = some (.string v) ∧ y.cell? ⟨rb, roff + k * 6 + 4, none⟩ = some (.int .i64 t) ∧ y.cell? ⟨rb, roff + k * 6 + 5, none⟩ = some (.int .i64 o)) x → (fun y : World => y.cell? ⟨w.heap.size, 4, none⟩ = some (.slice (some ⟨rb, roff, none⟩) rs.length cap) ∧ y.cell? ⟨rb, roff + 4, none⟩ = some (.int .i64 (fn : Int)) ∧ y.cell? ⟨rb, roff + k * 6, none⟩ = some (.bool hk') ∧ y.cell? ⟨rb, roff + k * 6 + 1, none⟩ = some (.string kk) ∧ y.cell? ⟨rb, roff + k * 6 + 2, none⟩ = some (.bool hv) ∧ y.cell? ⟨rb, roff + k * 6 + 3, none⟩ = some (.string v) ∧ y.cell? ⟨rb, roff + k * 6 + 4, none⟩ = some (.int .i64 t) ∧ y.cell? ⟨rb, roff + k * 6 + 5, none⟩ = some (.int .i64 o)) y) := by
        rintro x y hb ⟨g0, g1, g2, g3, g4, g5, g6, g7⟩
        exact ⟨(hb.cell (World.block_lt_of_cell? _ _ g0)).trans g0, (hb.cell (World.block_lt_of_cell? _ _ g1)).trans g1, (hb.cell (World.block_lt_of_cell? _ _ g2)).trans g2, (hb.cell (World.block_lt_of_cell? _ _ g3)).trans g3, (hb.cell (World.block_lt_of_cell? _ _ g4)).trans g4, (hb.cell (World.block_lt_of_cell? _ _ g5)).trans g5, (hb.cell (World.block_lt_of_cell? _ _ g6)).trans g6, (hb.cell (World.block_lt_of_cell? _ _ g7)).trans g7⟩
      go_wp2_with fail
      go_region_held3 (fun y : World => y.cell? ⟨w.heap.size, 4, none⟩ = some (.slice (some ⟨rb, roff, none⟩) rs.length cap) ∧ y.cell? ⟨rb, roff + 4, none⟩ = some (.int .i64 (fn : Int)) ∧ y.cell? ⟨rb, roff + k * 6, none⟩ = some (.bool hk') ∧ y.cell? ⟨rb, roff + k * 6 + 1, none⟩ = some (.string kk) ∧ y.cell? ⟨rb, roff + k * 6 + 2, none⟩ = some (.bool hv) ∧ y.cell? ⟨rb, roff + k * 6 + 3, none⟩ = some (.string v) ∧ y.cell? ⟨rb, roff + k * 6 + 4, none⟩ = some (.int .i64 t) ∧ y.cell? ⟨rb, roff + k * 6 + 5, none⟩ = some (.int .i64 o)) (first | exact hS4 | exact hS0)
        ((go_at_call 94; refine (HEn2.out _).mono ?_; rintro e w4 ⟨a4, c4', rfl, hr4, hn4, hb4⟩; have hS4 := HKP.out _ _ hb4 hS0; have hb5 : Below wr.heap.size wr w4 := (Below.refl _ wr).drew.trans hb4; have hown4 := owns_below hown hb5; have hbel4 := hb.trans (hb5.mono hz3)))
      go_wp2_with (at_builtin; refine wpList_append_row (by rfl) _ _ rfl u.heap.size u _ _ _ rfl hown4 hbel4 hbel4.size a4 c4' L rfl hr4 hn4 (by omega) ?_; intro v5 w5 hown5 hbel5)
      refine ⟨⟨k + 1, by omega, by go_num, by rw [HL.out, List.length_append, cv_append]; exact hown5, hbel5⟩, by simp [intOf]; omega⟩
    · obtain rfl : k = rs.length := by omega
      go_wp2_with fail
      go_ret
      exact ⟨_, rfl, owns_le hown (by have := HUB.out.bel.size; omega), HB.out.bel⟩
end Go.Proofs.YtaooidckmepdeaaGreatDoor
namespace Go.Proofs.YtaooidckmepdeaaGreatDoor
set_option linter.unusedSimpArgs false
set_option linter.unusedVariables false
open Go.RowKit
theorem wr_nums {b : Ba} (h : numsB b = false) : chkB b = 1 := by
  have : wrE b = 1 := by unfold wrE; rw [h]; simp
  unfold chkB
  rw [this]
  simp
theorem wr_rise {b : Ba} (h : ¬ Rise b.rs b.span) : chkB b = 1 := by
  have : wrE b = 1 := by unfold wrE; rw [rise_no h]; simp
  unfold chkB
  rw [this]
  simp
theorem wr_fst {b : Ba} (hn : numsB b = true) (h : Rise b.rs b.span) : wrE b = fstE b.rs := by unfold wrE; rw [hn, rise_yes h]; simp
theorem chk_neg {r : Rc} (h : r.o < 0) : chk r = 1 := by
  unfold chk
  rw [if_pos]
  unfold oddB
  simp [h]
theorem wr_neg {b : Ba} (hn : numsB b = true) (h0 : 0 < b.rs.length) (h : (b.rs.getD 0 rz).o < 0) : chkB b = 1 := by
  by_cases hr : Rise b.rs b.span
  · have e1 := fst_at b.rs 0 h0 (fun x hx => by omega) (by rw [chk_neg h]; omega)
    have : wrE b = 1 := by rw [wr_fst hn hr, e1, chk_neg h]
    unfold chkB
    rw [this]
    simp
  · exact wr_rise hr
theorem wr_at {b : Ba} (hn : numsB b = true) (hr : Rise b.rs b.span) (k : Nat) (hk : k < b.rs.length) (h : ∀ x, x < k → chk (b.rs.getD x rz) = 0) (hc : chk (b.rs.getD k rz) ≠ 0) : chkB b = chk (b.rs.getD k rz) := by
  have e := wr_fst hn hr
  rw [fst_at b.rs k hk h hc] at e
  unfold chkB
  rw [e, if_neg hc]
theorem wr_all {b : Ba} (hn : numsB b = true) (hr : Rise b.rs b.span) (h : ∀ x, x < b.rs.length → chk (b.rs.getD x rz) = 0) : wrE b = 0 := by rw [wr_fst hn hr, fst_zero b.rs h]
/-- The texts' sizes. -/
def szs (rs : List Rc) : Nat := (rs.map fun r => r.k.size + r.v.size).sum
theorem szs_take (rs : List Rc) (k : Nat) (h : k < rs.length) : szs (rs.take (k + 1)) = szs (rs.take k) + ((rs.getD k rz).k.size + (rs.getD k rz).v.size) := by
  unfold szs
  rw [List.take_succ_eq_append_getElem h, List.map_append, List.sum_append]
  simp [List.getD, h]
theorem size_nil {s : ByteArray} (h : s.toList = []) : s.size = 0 := by
  rw [empty_of h]
  rfl
theorem enc_ge {r : Rc} (first : Int) (h : chk r = 0) : r.k.size + r.v.size ≤ (encL r first).length := by
  obtain ⟨_, _, _, _, _, _, hk, hv⟩ := chk_ok h
  have e1 : r.k.size ≤ (textL r.hk r.k).length := by
    unfold textL
    cases e : r.hk
    · rw [size_nil (hk e)]; omega
    · simp [sb_len]
  have e2 : r.v.size ≤ (textL r.hv r.v).length := by
    unfold textL
    cases e : r.hv
    · rw [size_nil (hv e)]; omega
    · simp [sb_len]
  unfold encL
  simp only [List.length_cons, List.length_append]
  omega
theorem szs_le {rs : List Rc} (first : Int) (h : ∀ r, r ∈ rs → chk r = 0) : szs rs ≤ (bodyL rs first).length := by
  induction rs with
  | nil => simp [szs]
  | cons r t ih =>
    have h1 := ih (fun q hq => h q (by simp [hq]))
    have h2 := enc_ge first (h r (by simp))
    rw [body_cons, List.length_append]
    simp only [szs, List.map_cons, List.sum_cons] at h1 ⊢
    omega
theorem rise_pre {rs : List Rc} {span : Int} (h : Rise rs span) (k : Nat) (hk : k ≤ rs.length) (hc : ∀ x, x < k → chk (rs.getD x rz) = 0) (hs : span ≤ 100) : k ≤ 100 := by
  have hg : ∀ i, i < k → (i : Int) ≤ (rs.getD i rz).o := by
    intro i
    induction i with
    | zero =>
      intro hi
      have := (chk_ok (hc 0 hi)).2.2.1
      omega
    | succ i ih =>
      intro hi
      have h1 := ih (by omega)
      have h2 := (h (i + 1) (by omega)).2 (by omega)
      simp only [Nat.add_sub_cancel] at h2
      omega
  by_cases h0 : k = 0
  · omega
  · have h3 := hg (k - 1) (by omega)
    have h4 := (h (k - 1) (by omega)).1
    omega
theorem szs_bd {rs : List Rc} (k : Nat) (hk : k ≤ rs.length) (hc : ∀ x, x < k → chk (rs.getD x rz) = 0) : szs (rs.take k) ≤ k * 4000 := by
  induction k with
  | zero => simp [szs]
  | succ k ih =>
    rw [szs_take rs k (by omega)]
    have := ih (by omega) (fun x hx => hc x (by omega))
    obtain ⟨_, _, _, _, k1, v1, _⟩ := chk_ok (hc k (by omega))
    omega
set_option maxHeartbeats 4000000 in
set_option maxRecDepth 100000 in
theorem rcheckB_any (b : Ba) (a : Option Addr) (cap : Nat) (w : World) (hr : RRow w a b.rs) (hi : In64B b) (hl : b.rs.length ≤ maxLen) :
    Calls Tryz.prog 79 #[bav b a cap] w fun e w' => e = .returned (.int .i64 (chkB b)) ∧ Below w.heap.size w w' := by
  have hl0 := hl
  unfold maxLen at hl
  have PN : Hid (numsB b = false → chkB b = 1) := wr_nums
  have PR : Hid (¬ Rise b.rs b.span → chkB b = 1) := wr_rise
  have PG : Hid (numsB b = true → (b.rs.getD 0 rz).o < 0 → 0 < b.rs.length → chkB b = 1) := fun h1 h2 h3 => wr_neg h1 h3 h2
  have PA : Hid (numsB b = true → Rise b.rs b.span → ∀ k, k < b.rs.length → (∀ x, x < k → chk (b.rs.getD x rz) = 0) → chk (b.rs.getD k rz) ≠ 0 → chkB b = chk (b.rs.getD k rz)) := fun h1 h2 k => wr_at h1 h2 k
  have PZ : Hid (numsB b = true → Rise b.rs b.span → (∀ x, x < b.rs.length → chk (b.rs.getD x rz) = 0) → wrE b = 0) := wr_all
  have PS : Hid (∀ n, (∀ x, x < b.rs.length → chk (b.rs.getD x rz) = 0) → szs b.rs = n → wrE b = 0 → 6000 < n → chkB b = 2) := by
    intro n h hn hw hs
    have hc := (wr_ok hw).2.2.2.2.2.2
    have := szs_le (frs b) hc
    unfold chkB
    rw [if_pos hw, if_pos (by omega)]
  have PC : Hid (∀ m, wrE b = 0 → (tailL b).length = m → chkB b = if 6000 < m + 16 then 2 else 0) := by
    intro m hw hm
    have := tail_len b
    unfold chkB
    rw [if_pos hw, show 48 + (bodyL b.rs (frs b)).length = m + 16 by omega]
  have PB : Hid (∀ x, RRow x a b.rs → wrE b = 0 → Calls Tryz.prog 80 #[bav b a cap] x fun e w' => ∃ v, e = .returned v ∧ w'.ownsRow x.heap.size 5 1 v (tailL b).length (cv (tailL b)) ∧ Below x.heap.size x w') := fun x hx hw => rbody_any b a cap x hx hi hw
  have PM : Hid (wrE b = 0 → (∀ i, (tailL b).getD i 0 < 256) ∧ (tailL b).length ≤ 600000) := by
    intro hw
    refine ⟨lt_mem (fun x hx => encB_mem hw x (by unfold encBL; exact List.mem_append_right _ hx)), ?_⟩
    have h1 := body_len (frs b) (wr_ok hw).2.2.2.2.2.2
    have h2 := (wr_len hw).1
    have h3 := tail_len b
    omega
  have PL : Hid (wrE b = 0 → b.rs.length ≤ 100) := fun hw => (wr_len hw).1
  obtain ⟨c, HC⟩ : ∃ c, Hid (chkB b = c) := ⟨_, rfl⟩
  have HNU : Hid (numsB b = (baseB b.base && decide (1 ≤ b.span) && decide (b.span ≤ 100) && decide (0 ≤ b.prod) && decide (0 ≤ b.seq) && decide (0 < b.rs.length))) := rfl
  rw [HC.out] at PN PR PG PA PS PC ⊢
  obtain ⟨W0, HW0⟩ : ∃ W0, Hid (wrE b = W0) := ⟨_, rfl⟩
  rw [HW0.out] at PZ PS PC PB PM PL
  generalize tailL b = TL at *
  generalize numsB b = nb at *
  clear HC HW0 hi
  obtain ⟨base, span, prod, seq, rs⟩ := b
  simp only [bav] at *
  simp only [baseB] at HNU
  have HR0 : Hid (RRow w a rs) := hr
  clear hr
  have HZ : Hid (∀ cs, Below w.heap.size w (w.alloc (.cells cs 88))) := fun cs => below_box _
  by_cases h1 : base < 0
  · have h1d : decide (base < 0) = true := decide_eq_true h1
    go_enter Tryz.func79, Tryz.ntmps79
    go_wp2_with fail
    go_ret
    refine ⟨retI (PN.out ?_).symm, HZ.out _⟩
    rw [HNU.out]
    simp
    try omega
  · have h1d : decide (base < 0) = false := decide_eq_false h1
    by_cases h2 : 1125899906842624 < base
    · have h2d : decide (1125899906842624 < base) = true := decide_eq_true h2
      go_enter Tryz.func79, Tryz.ntmps79
      go_wp2_with fail
      go_ret
      refine ⟨retI (PN.out ?_).symm, HZ.out _⟩
      rw [HNU.out]
      simp
      try omega
    · have h2d : decide (1125899906842624 < base) = false := decide_eq_false h2
      by_cases h3 : span < 1
      · have h3d : decide (span < 1) = true := decide_eq_true h3
        go_enter Tryz.func79, Tryz.ntmps79
        go_wp2_with fail
        go_ret
        refine ⟨retI (PN.out ?_).symm, HZ.out _⟩
        rw [HNU.out]
        simp
        try omega
      · have h3d : decide (span < 1) = false := decide_eq_false h3
        by_cases h4 : 100 < span
        · have h4d : decide (100 < span) = true := decide_eq_true h4
          go_enter Tryz.func79, Tryz.ntmps79
          go_wp2_with fail
          go_ret
          refine ⟨retI (PN.out ?_).symm, HZ.out _⟩
          rw [HNU.out]
          simp
          try omega
        · have h4d : decide (100 < span) = false := decide_eq_false h4
          by_cases h5 : prod < 0
          · have h5d : decide (prod < 0) = true := decide_eq_true h5
            go_enter Tryz.func79, Tryz.ntmps79
            go_wp2_with fail
            go_ret
            refine ⟨retI (PN.out ?_).symm, HZ.out _⟩
            rw [HNU.out]
            simp
            try omega
          · have h5d : decide (prod < 0) = false := decide_eq_false h5
            by_cases h6 : seq < 0
            · have h6d : decide (seq < 0) = true := decide_eq_true h6
              go_enter Tryz.func79, Tryz.ntmps79
              go_wp2_with fail
              go_ret
              refine ⟨retI (PN.out ?_).symm, HZ.out _⟩
              rw [HNU.out]
              simp
              try omega
            · have h6d : decide (seq < 0) = false := decide_eq_false h6
              by_cases h7 : ((rs.length : Int) == 0) = true
              · go_enter Tryz.func79, Tryz.ntmps79
                go_wp2_with fail
                go_ret
                refine ⟨retI (PN.out ?_).symm, HZ.out _⟩
                rw [HNU.out]
                have : rs.length = 0 := by simpa using h7
                simp [this]
              have h7d : ((rs.length : Int) == 0) = false := by simpa using h7
              have hpos : 0 < rs.length := by
                rcases Nat.eq_zero_or_pos rs.length with h | h
                · exact absurd (by rw [h]; rfl) h7
                · exact h
              have hnb : nb = true := by
                rw [HNU.out]
                simp [hpos]
                omega
              subst hnb
              clear HNU PN
              go_enter Tryz.func79, Tryz.ntmps79
              go_wp2_with fail
              have HB0 : Hid (BxS w (bcells ⟨base, span, prod, seq, rs⟩ a cap) (w.alloc (.cells #[.int .i64 base, .int .i64 span, .int .i64 prod, .int .i64 seq, .slice a rs.length cap] 88))) := BxS.new w _
              have HSP : Hid (span ≤ 100) := (by show _ ≤ _; omega)
              clear h1 h1d h2 h2d h3 h3d h4 h4d h5 h5d h6 h6d h7 h7d HZ
              go_loopw [3, 4] (fun l i wr => ∃ (k : Nat) (z : Int), k ≤ rs.length ∧ i = .int .i64 k ∧ l = .int .i64 z ∧ (k = 0 → z = -1) ∧ (0 < k → z = (rs.getD (k - 1) rz).o) ∧ (∀ x, x < k → RiseAt rs span x) ∧ BxS w (bcells ⟨base, span, prod, seq, rs⟩ a cap) wr) (fun _ i _ => rs.length - (intOf i).toNat)
              case atStart => exact ⟨0, -1, by omega, rfl, rfl, fun _ => rfl, fun h => absurd h (by omega), by intro x hx; omega, HB0.out⟩
              case round =>
                obtain ⟨k, z, hk, rfl, rfl, hz0, hz1, hS, hB⟩ := hrel
                have HS : Hid (∀ x, x < k → RiseAt rs span x) := hS
                have HB : Hid (BxS w (bcells ⟨base, span, prod, seq, rs⟩ a cap) wr) := hB
                obtain ⟨c0, c1, c2, c3, c4, cz⟩ := BxS.cells hB
                simp only at c0 c1 c2 c3 c4
                clear hS hB HB0
                by_cases hlt : k < rs.length
                · have hltI : (k : Int) < (rs.length : Int) := by omega
                  have HQ : Hid ((rs.getD k rz).o < span → z < (rs.getD k rz).o → ∀ x, x < k + 1 → RiseAt rs span x) := by
                    intro e1 e2 j hj
                    by_cases hjk : j = k
                    · subst hjk
                      exact ⟨e1, fun h => by rw [← hz1 h]; exact e2⟩
                    · exact HS.out j (by omega)
                  have HN : Hid (¬ ((rs.getD k rz).o < span ∧ z < (rs.getD k rz).o) → c = 1) := by
                    intro h
                    by_cases hk0 : k = 0
                    · by_cases ho : (rs.getD 0 rz).o < 0
                      · exact PG.out trivial ho hpos
                      · refine PR.out (fun q => h ⟨(q k hlt).1, ?_⟩)
                        rw [hz0 hk0, hk0]
                        omega
                    · refine PR.out (fun q => h ⟨(q k hlt).1, ?_⟩)
                      rw [hz1 (by omega)]
                      exact (q k hlt).2 (by omega)
                  obtain ⟨b', off, rfl, z0, z1, z2, z3, z4, z5⟩ := (RRow.below HR0.out HB.out.bel) k hlt
                  have hbz := World.block_lt_of_cell? _ _ z0
                  simp only at hbz
                  have HBB : Hid (∀ cs, BxS w (bcells ⟨base, span, prod, seq, rs⟩ (some ⟨b', off, none⟩) cap) (wr.alloc (.cells cs 84))) := fun cs => BxS.below HB.out (below_box _)
                  have HO : Hid (∀ o, (rs.getD k rz).o = o → (rs.getD (k + 1 - 1) rz).o = o) := fun o h => by rw [Nat.add_sub_cancel]; exact h
                  clear hz0 hz1
                  generalize rs.getD k rz = r at *
                  obtain ⟨hk', kk, hv, v, t, o⟩ := r
                  simp only at z0 z1 z2 z3 z4 z5
                  by_cases g1 : o ≤ z
                  · have g1d : decide (o ≤ z) = true := decide_eq_true g1
                    go_wp2_with fail
                    go_ret
                    exact ⟨retI (HN.out (fun q => absurd q.2 (by show ¬ z < o; omega))).symm, (HBB.out _).bel⟩
                  · have g1d : decide (o ≤ z) = false := decide_eq_false g1
                    by_cases g2 : span ≤ o
                    · have g2d : decide (span ≤ o) = true := decide_eq_true g2
                      go_wp2_with fail
                      go_ret
                      exact ⟨retI (HN.out (fun q => absurd q.1 (by show ¬ o < span; omega))).symm, (HBB.out _).bel⟩
                    · have g2d : decide (span ≤ o) = false := decide_eq_false g2
                      go_wp2_with fail
                      exact ⟨⟨k + 1, o, by omega, by go_num, rfl, fun h => absurd h (by omega), fun _ => (HO.out o rfl).symm, HQ.out (by show o < span; omega) (by show z < o; omega), HBB.out _⟩, by simp [intOf]; omega⟩
                · obtain rfl : k = rs.length := by omega
                  have HRS : Hid (Rise rs span) := HS.out
                  clear HS hz0 hz1 PR PG
                  have HB1 := HB
                  clear HB
                  have HSZ : Hid (szs (rs.take rs.length) = szs rs) := by show _ = _; rw [List.take_length]
                  have HWR : Hid ((∀ x, x < rs.length → chk (rs.getD x rz) = 0) → W0 = 0) := fun h => PZ.out trivial HRS.out h
                  go_wp2_with fail
                  clear c0 c1 c2 c3 c4 cz
                  go_loopw [6, 7] (fun n i wr => ∃ (k : Nat), k ≤ rs.length ∧ i = .int .i64 k ∧ n = .int .i64 ((szs (rs.take k) : Nat) : Int) ∧ (∀ x, x < k → chk (rs.getD x rz) = 0) ∧ BxS w (bcells ⟨base, span, prod, seq, rs⟩ a cap) wr) (fun _ i _ => rs.length - (intOf i).toNat)
                  case atStart => exact ⟨0, by omega, rfl, rfl, by intro x hx; omega, HB1.out⟩
                  case round =>
                    clear HB1
                    obtain ⟨k, hk, rfl, rfl, hS, hB⟩ := hrel
                    have HS : Hid (∀ x, x < k → chk (rs.getD x rz) = 0) := hS
                    have HB : Hid (BxS w (bcells ⟨base, span, prod, seq, rs⟩ a cap) wr) := hB
                    have hk100 := rise_pre HRS.out k hk hS HSP.out
                    have hnb := szs_bd k hk hS
                    obtain ⟨c0, c1, c2, c3, c4, cz⟩ := BxS.cells hB
                    simp only at c0 c1 c2 c3 c4
                    clear hS hB
                    by_cases hlt : k < rs.length
                    · have hltI : (k : Int) < (rs.length : Int) := by omega
                      have HQ : Hid (chk (rs.getD k rz) = 0 → ∀ x, x < k + 1 → chk (rs.getD x rz) = 0) := by
                        intro e j hj
                        by_cases hjk : j = k
                        · subst hjk; exact e
                        · exact HS.out j (by omega)
                      have HN : Hid (chk (rs.getD k rz) ≠ 0 → c = chk (rs.getD k rz)) := fun h => PA.out trivial HRS.out k hlt HS.out h
                      have HST : Hid (szs (rs.take (k + 1)) = szs (rs.take k) + ((rs.getD k rz).k.size + (rs.getD k rz).v.size)) := szs_take rs k hlt
                      have HKV : Hid (chk (rs.getD k rz) = 0 → (rs.getD k rz).k.size ≤ 2000 ∧ (rs.getD k rz).v.size ≤ 2000) := fun h => ⟨(chk_ok h).2.2.2.2.1, (chk_ok h).2.2.2.2.2.1⟩
                      have HCK : Hid _ := rcheck_any (rs.getD k rz)
                      have HRR := RRow.below HR0.out HB.out.bel
                      obtain ⟨b', off, rfl, z0, z1, z2, z3, z4, z5⟩ := HRR k hlt
                      have hbz := World.block_lt_of_cell? _ _ z0
                      simp only at hbz
                      have HRX : Hid (∀ x, Below wr.heap.size wr x → x.cell? ⟨b', off + k * 6 + 1, none⟩ = some (.string (rs.getD k rz).k) ∧ x.cell? ⟨b', off + k * 6 + 3, none⟩ = some (.string (rs.getD k rz).v)) := fun x hx => ⟨(hx.cell (World.block_lt_of_cell? _ _ z1)).trans z1, (hx.cell (World.block_lt_of_cell? _ _ z3)).trans z3⟩
                      clear HRR
                      generalize szs (rs.take k) = S at *
                      generalize rs.getD k rz = r at *
                      obtain ⟨cc, HC0⟩ : ∃ cc, Hid (chk r = cc) := ⟨_, rfl⟩
                      rw [HC0.out] at HCK HQ HN HKV
                      obtain ⟨hk', kk, hv, v, t, o⟩ := r
                      simp only at z0 z1 z2 z3 z4 z5
                      simp only [Rc.cells] at HCK
                      by_cases h0 : cc = 0
                      · subst h0
                        obtain ⟨kb, vb⟩ := HKV.out rfl
                        simp only at kb vb
                        have kbI : (kk.size : Int) ≤ 2000 := by omega
                        have vbI : (v.size : Int) ≤ 2000 := by omega
                        have hSI : (S : Int) ≤ 400000 := by omega
                        have w1 : IntKind.i64.wrap ((S : Int) + (kk.size : Int)) = (S : Int) + (kk.size : Int) := by rw [IntKind.wrap_i64]; omega
                        have w2 : IntKind.i64.wrap ((S : Int) + (kk.size : Int) + (v.size : Int)) = (S : Int) + (kk.size : Int) + (v.size : Int) := by rw [IntKind.wrap_i64]; omega
                        go_wp2_with (go_at_call 93; refine (HCK.out _).mono ?_; rintro e w4 ⟨rfl, hb4⟩; have HB4 : Hid (BxS w (bcells ⟨base, span, prod, seq, rs⟩ (some ⟨b', off, none⟩) cap) w4) := BxS.below HB.out hb4; obtain ⟨y1, y3⟩ := HRX.out w4 hb4; clear c0 c1 c2 c3 c4 cz z0 z1 z2 z3 z4 z5; obtain ⟨c0, c1, c2, c3, c4, cz⟩ := BxS.cells HB4.out; simp only at c0 c1 c2 c3 c4 y1 y3)
                        go_quiet (fail)
                        go_wp2
                        refine ⟨⟨k + 1, by omega, by go_num, ?_, HQ.out trivial, ?_⟩, by simp [intOf]; omega⟩
                        · rw [HST.out]; go_num
                        · exact BxS.below HB4.out (below_drewN (Below.refl _ _) _)
                      · have h0' : (cc != 0) = true := by rw [bne_iff_ne]; exact h0
                        go_wp2_with (go_at_call 93; refine (HCK.out _).mono ?_; rintro e w4 ⟨rfl, hb4⟩; have HB4 : Hid (Below w.heap.size w w4) := HB.out.bel.trans (hb4.mono HB.out.bel.size))
                        go_ret
                        exact ⟨retI (HN.out (by simpa using h0')).symm, HB4.out⟩
                    · obtain rfl : k = rs.length := by omega
                      have hW := HWR.out HS.out
                      subst hW
                      obtain ⟨n0, HN0⟩ : ∃ n0, Hid (szs rs = n0) := ⟨_, rfl⟩
                      rw [HSZ.out, HN0.out] at hnb ⊢
                      by_cases h6 : (6000 : Int) < (n0 : Int)
                      · have h6d : decide ((6000 : Int) < (n0 : Int)) = true := decide_eq_true h6
                        go_wp2_with fail
                        go_ret
                        exact ⟨retI (PS.out n0 HS.out HN0.out (by trivial) (by omega)).symm, HB.out.bel⟩
                      · have h6d : decide ((6000 : Int) < (n0 : Int)) = false := decide_eq_false h6
                        obtain ⟨HTB, hTL⟩ := PM.out rfl
                        have HTB2 : Hid (∀ i, TL.getD i 0 < 256) := HTB
                        clear HTB
                        obtain ⟨m, HM⟩ : ∃ m, Hid (TL.length = m) := ⟨_, rfl⟩
                        have hcm := PC.out m rfl HM.out
                        have HPB : Hid _ := fun x hx => PB.out x hx rfl
                        rw [HM.out] at hTL
                        have w3 : IntKind.i64.wrap ((m : Int) + 16) = (m : Int) + 16 := by rw [IntKind.wrap_i64]; omega
                        have HCM : Hid (c = if 6000 < m + 16 then 2 else 0) := hcm
                        clear hcm
                        by_cases h8 : (6000 : Int) < (m : Int) + 16
                        · go_wp2_with (go_at_call 80; refine (HPB.out _ (RRow.below HR0.out HB.out.bel)).mono ?_; rintro e w5 ⟨v5, rfl, hown5, hb5⟩; obtain ⟨a5, k5, rfl, hr5, hn5⟩ := owns_sl hown5 HTB2.out; rw [HM.out]; have HB5 : Hid (Below w.heap.size w w5) := HB.out.bel.trans (hb5.mono HB.out.bel.size); clear hown5 hr5 hn5)
                          go_ret
                          exact ⟨retI (by rw [HCM.out, if_pos (by omega)]), HB5.out⟩
                        · go_wp2_with (go_at_call 80; refine (HPB.out _ (RRow.below HR0.out HB.out.bel)).mono ?_; rintro e w5 ⟨v5, rfl, hown5, hb5⟩; obtain ⟨a5, k5, rfl, hr5, hn5⟩ := owns_sl hown5 HTB2.out; rw [HM.out]; have HB5 : Hid (Below w.heap.size w w5) := HB.out.bel.trans (hb5.mono HB.out.bel.size); clear hown5 hr5 hn5)
                          go_ret
                          exact ⟨retI (by rw [HCM.out, if_neg (by omega)]), HB5.out⟩
end Go.Proofs.YtaooidckmepdeaaGreatDoor
namespace Go.Proofs.YtaooidckmepdeaaGreatDoor
set_option linter.unusedSimpArgs false
set_option linter.unusedVariables false
open Go.RowKit
set_option maxHeartbeats 1600000 in
set_option maxRecDepth 100000 in
theorem rencodeB_any (b : Ba) (a : Option Addr) (cap : Nat) (hi : In64B b) (hl : b.rs.length ≤ maxLen) : BEnc 51 b a cap := fun w ht hr => by
  have HK : Hid (∀ x, RRow x a b.rs → Calls Tryz.prog 79 #[bav b a cap] x fun e w' => e = .returned (.int .i64 (chkB b)) ∧ Below x.heap.size x w') := fun x hx => rcheckB_any b a cap x hx hi hl
  have HR0 : Hid (RRow w a b.rs) := hr
  by_cases h : chkB b = 0
  · obtain ⟨hw, h6⟩ := chk_parts h
    have hR : encBR b = encBL b := by unfold encBR; rw [if_pos h]
    rw [h] at HK
    rw [h, hR]
    obtain ⟨b0, b1⟩ := (wr_ok hw).1
    obtain ⟨bn, ebn⟩ := Int.eq_ofNat_of_zero_le b0
    have HB : Hid (∀ x, RRow x a b.rs → Calls Tryz.prog 80 #[bav b a cap] x fun e w' => ∃ v, e = .returned v ∧ w'.ownsRow x.heap.size 5 1 v (tailL b).length (cv (tailL b)) ∧ Below x.heap.size x w') := fun x hx => rbody_any b a cap x hx hi hw
    have HTB : Hid (∀ i, (tailL b).getD i 0 < 256) := lt_mem (fun x hx => encB_mem hw x (by unfold encBL; exact List.mem_append_right _ hx))
    have hTL : (tailL b).length ≤ 6000 := by have := tail_len b; omega
    have hsl := sum_lt (tailL b) (mem_lt HTB.out)
    have hE : encBL b = (([] ++ lay 8 bn) ++ lay 4 ((tailL b).length + 4)) ++ lay 4 (P.sum (tailL b)) ++ tailL b := by
      unfold encBL headL
      rw [ebn]
      simp
    rw [hE]
    generalize tailL b = TL at *
    have HSU : Hid (∀ x a k, Row x a TL → Calls Tryz.prog 81 #[.slice a TL.length k] x fun e w' => e = .returned (.int .u32 ((P.sum TL : Nat) : Int)) ∧ w' = x) := fun x a k hr => rsum_any a k TL x hr (by unfold maxLen; omega)
    generalize P.sum TL = sn at *
    clear hE hR h hw h6 b0
    obtain ⟨base, span, prod, seq, rs⟩ := b
    simp only [bav] at *
    subst ebn
    have HX1 : Hid _ := fun v x u l hl h1 h2 => lay_any v l 8 bn x u u.heap.size h1 h2 (Nat.le_refl _) hl (by omega) (by omega)
    have HX2 : Hid _ := fun v x u l hl h1 h2 => lay_any v l 4 (TL.length + 4) x u u.heap.size h1 h2 (Nat.le_refl _) hl (by omega) (by omega)
    have HX3 : Hid _ := fun v x u l hl h1 h2 => lay_any v l 4 sn x u u.heap.size h1 h2 (Nat.le_refl _) hl (by omega) (by omega)
    have HL1 : Hid (([] ++ lay 8 bn).length ≤ 1000) := by show _ ≤ _; simp [lay_len]
    have HL2 : Hid ((([] ++ lay 8 bn) ++ lay 4 (TL.length + 4)).length ≤ 1000) := by show _ ≤ _; simp [lay_len]
    have HL3 : Hid (((([] ++ lay 8 bn) ++ lay 4 (TL.length + 4)) ++ lay 4 sn).length ≤ 1000) := by show _ ≤ _; simp [lay_len]
    generalize lay 8 bn = l1 at *
    generalize lay 4 (TL.length + 4) = l2 at *
    generalize lay 4 sn = l3 at *
    have hw1 : IntKind.u64.wrap (bn : Int) = (bn : Int) := by rw [IntKind.wrap_u64]; omega
    have hw2 : IntKind.i64.wrap ((TL.length : Int) + 4) = ((TL.length + 4 : Nat) : Int) := by rw [IntKind.wrap_i64]; omega
    have hw3 : IntKind.u64.wrap ((TL.length + 4 : Nat) : Int) = ((TL.length + 4 : Nat) : Int) := by rw [IntKind.wrap_u64]; omega
    have hw4 : IntKind.u64.wrap (sn : Int) = (sn : Int) := by rw [IntKind.wrap_u64]; omega
    obtain ⟨tn, HTN⟩ : ∃ tn, Hid (TL.length + 4 = tn) := ⟨_, rfl⟩
    rw [HTN.out] at HX2 hw2 hw3
    clear hr ht b1
    have tok1 : True := trivial
    go_enter Tryz.func51, Tryz.ntmps51
    go_wp2_with (first
      | (go_at_call 79; refine (HK.out _ (RRow.below HR0.out (below_box _))).mono ?_; rintro e w1 ⟨rfl, hb1⟩; have HB1 : Hid (BxS w (bcells ⟨(bn : Int), span, prod, seq, rs⟩ a cap) w1) := BxS.below (BxS.new w _) hb1; have HRR : Hid (RRow w1 a rs) := RRow.below (RRow.below HR0.out (below_box _)) hb1; obtain ⟨c0, c1, c2, c3, c4, cz⟩ := BxS.cells HB1.out; simp only at c0 c1 c2 c3 c4; clear hb1)
      | (go_at_call 80; refine (HB.out _ HRR.out).mono ?_; rintro e w2 ⟨v2, rfl, hown2, hb2⟩; obtain ⟨a2, k2, rfl, hr2, hn2⟩ := owns_sl hown2 HTB.out; have HB2 : Hid (BxS w (bcells ⟨(bn : Int), span, prod, seq, rs⟩ a cap) w2) := BxS.below HB1.out hb2; clear c0 c1 c2 c3 c4 cz hown2 hb2 HRR; obtain ⟨c0, c1, c2, c3, c4, cz⟩ := BxS.cells HB2.out; simp only at c0 c1 c2 c3 c4; have HRW : Hid (Row w2 a2 TL) := hr2; clear hr2)
      | (go_at_call 35; have _t := tok1; refine (HX1.out _ _ w2 [] (by simp) (World.ownsRow_nil _ _ _ _) (Below.refl _ _)).mono ?_; clear tok1 _t; rintro e x1 ⟨v1, rfl, hown1, hb1⟩)
      | (go_at_call 35; have _t := hown1; refine (HX2.out _ _ w2 ([] ++ l1) HL1.out hown1 hb1).mono ?_; clear hown1 _t; rintro e x2 ⟨v3, rfl, hown2, hb2⟩; have hr2 := Row.below HRW.out hb2)
      | (go_at_call 81; refine (HSU.out _ _ _ hr2).mono ?_; rintro e x3 ⟨rfl, hw⟩; subst x3)
      | (go_at_call 35; have _t := hown2; refine (HX3.out _ _ w2 (([] ++ l1) ++ l2) HL2.out hown2 hb2).mono ?_; clear hown2 _t hr2; rintro e x4 ⟨v4, rfl, hown4, hb4⟩; have hr4 := Row.below HRW.out hb4)
      | (at_builtin; refine wpList_append_row (by rfl) _ _ rfl w2.heap.size w2 _ _ _ rfl hown4 hb4 hb4.size a2 k2 TL rfl hr4 hn2 (by have := HL3.out; omega) ?_; intro v5 w5 hown5 hbel5))
    go_ret2
    refine ⟨v5, rfl, ?_, HB2.out.bel.trans (hbel5.mono HB2.out.bel.size)⟩
    rw [List.length_append, cv_append]
    exact owns_le hown5 HB2.out.bel.size
  · have hR : encBR b = [] := by unfold encBR; rw [if_neg h]
    have hne : (chkB b != 0) = true := by rw [bne_iff_ne]; exact h
    rw [hR]
    generalize chkB b = c at *
    obtain ⟨base, span, prod, seq, rs⟩ := b
    simp only [bav] at *
    clear h hr ht
    go_enter Tryz.func51, Tryz.ntmps51
    go_wp2_with (go_at_call 79; refine (HK.out _ (RRow.below HR0.out (below_box _))).mono ?_; rintro e w1 ⟨rfl, hb1⟩; have HB1 : Hid (Below w.heap.size w w1) := (below_box _).trans (hb1.mono (by simp)))
    go_ret2
    exact ⟨_, rfl, World.ownsRow_nil _ _ _ _, HB1.out⟩
end Go.Proofs.YtaooidckmepdeaaGreatDoor
namespace Go.Proofs.YtaooidckmepdeaaGreatDoor
set_option linter.unusedSimpArgs false
set_option linter.unusedVariables false
open Go.RowKit
theorem row_split {α : Type} (en : α → Ls) (st : Ls) (l : List α) (h : l.length ≤ 65535) : oa st (eRow en l) = oa (oa st (eSh l.length)) (eL en l) := by
  unfold eRow eSh
  rw [if_pos h, if_pos h, oa_assoc]
set_option maxHeartbeats 2000000 in
set_option maxRecDepth 100000 in
theorem pf_names (w0 w : World) (P : Nat) (st : Ls) (N f : Nat) (k i : Int) (T : Nat → ByteArray) (M : Nat → Int) (c : Bool) (s0 s1 s3 : Value) (na : Option Addr) (nc : Nat) (nm : List ByteArray) (hN : N ≤ 100000000000) (hl : nm.length ≤ 300) (hr : SRow w0 na nm) (hrs : ∀ s, s ∈ nm → s.size ≤ 30000) (h : PnS w0 P w st N) :
    Calls Tryz.prog 36 #[(.pointer (some ⟨P, 0, none⟩)), .agg #[.int .i64 6, .int .i64 (f : Int)], .agg (gbc k i T M c s0 s1 (.slice na nm.length nc) s3)] w (PP w0 P w (oa st (eRow eText nm)) (N + 2 + 10000000)) := by
  have HB : Hid (((w.alloc (.cells #[.int .i64 6, .int .i64 (f : Int)] 78)).alloc (.cells (gbc k i T M c s0 s1 (.slice na nm.length nc) s3) 73)).heap[w.heap.size]? = some (.cells #[.int .i64 6, .int .i64 (f : Int)] 78 (0, 0))) := (two_boxes w _ _ 78 73).1
  have HG : Hid (((w.alloc (.cells #[.int .i64 6, .int .i64 (f : Int)] 78)).alloc (.cells (gbc k i T M c s0 s1 (.slice na nm.length nc) s3) 73)).heap[w.heap.size + 1]? = some (.cells (gbc k i T M c s0 s1 (.slice na nm.length nc) s3) 73 (0, 0))) := (two_boxes w _ _ 78 73).2
  have HBL : Hid (Below w.heap.size w ((w.alloc (.cells #[.int .i64 6, .int .i64 (f : Int)] 78)).alloc (.cells (gbc k i T M c s0 s1 (.slice na nm.length nc) s3) 73))) := (below_box _).trans ((below_box _).mono (by simp))
  have HY : Hid (PnS w0 P ((w.alloc (.cells #[.int .i64 6, .int .i64 (f : Int)] 78)).alloc (.cells (gbc k i T M c s0 s1 (.slice na nm.length nc) s3) 73)) st N) := PnS.below h HBL.out
  have HPW : Hid (P < w.heap.size) := by obtain ⟨v0, l0, hx0, _⟩ := h.ex; exact (Array.getElem?_eq_some_iff.1 hx0).1
  have HLO : Hid (w0.heap.size ≤ P) := h.low
  have b0 : ((w.alloc (.cells #[.int .i64 6, .int .i64 (f : Int)] 78)).alloc (.cells (gbc k i T M c s0 s1 (.slice na nm.length nc) s3) 73)).cell? ⟨w.heap.size, 0, none⟩ = some (.int .i64 6) := (box_at HB.out 0).1
  have HGK : Hid (∀ x, KeepT P ((w.alloc (.cells #[.int .i64 6, .int .i64 (f : Int)] 78)).alloc (.cells (gbc k i T M c s0 s1 (.slice na nm.length nc) s3) 73)) x → x.cell? ⟨w.heap.size + 1, 27, none⟩ = some (.slice na nm.length nc)) := fun x hx => by
    rw [(box_at (KeepT.box hx HG.out (by have := HPW.out; omega) (by decide)) 27).1]; exact (gbc_r ..).2.2.2.1
  have g2 := HGK.out _ (KeepT.refl _ _)
  have HC : Hid (Calls Tryz.prog 50 #[(.pointer (some ⟨P, 0, none⟩)), .int .i64 (nm.length : Int)] ((w.alloc (.cells #[.int .i64 6, .int .i64 (f : Int)] 78)).alloc (.cells (gbc k i T M c s0 s1 (.slice na nm.length nc) s3) 73)) (PP w0 P ((w.alloc (.cells #[.int .i64 6, .int .i64 (f : Int)] 78)).alloc (.cells (gbc k i T M c s0 s1 (.slice na nm.length nc) s3) 73)) (oa st (eSh nm.length)) (N + 2))) := short_any w0 _ P st N nm.length (by omega) (by omega) HY.out
  have e0 := row_split eText st nm (by omega)
  have HR : Hid (SRow w0 na nm) := hr
  have HRS : Hid (∀ s, s ∈ nm → s.size ≤ 30000) := hrs
  rw [e0]
  generalize oa st (eSh nm.length) = s9 at *
  clear h HB HG HY e0
  clear hr hrs
  generalize (gbc k i T M c s0 s1 (.slice na nm.length nc) s3) = GS at *
  go_enter Tryz.func36, Tryz.ntmps36
  go_wp2_with (go_at_call 50; refine Calls.mono HC.out ?_; rintro e w1 ⟨rfl, hw1, hk1⟩; have HW1 : Hid (PnS w0 P w1 s9 (N + 2)) := hw1; have HK1 : Hid (KeepT P ((w.alloc (.cells #[.int .i64 6, .int .i64 (f : Int)] 78)).alloc (.cells GS 73)) w1) := hk1; clear hw1 hk1 b0 g2; have g2 := HGK.out w1 HK1.out)
  go_loopw [10] (fun iv wr => ∃ kk : Nat, kk ≤ nm.length ∧ iv = .int .i64 kk ∧ PnS w0 P wr (oa s9 (eL eText (nm.take kk))) (N + 2 + kk * 30002) ∧ KeepT P ((w.alloc (.cells #[.int .i64 6, .int .i64 (f : Int)] 78)).alloc (.cells GS 73)) wr) (fun iv _ => nm.length - (iof iv).toNat)
  case atStart => exact ⟨0, by omega, rfl, by simpa [eL, oa_nil] using HW1.out, HK1.out⟩
  case round =>
    obtain ⟨kk, hkk, rfl, hp, hkt⟩ := hrel
    obtain ⟨sk, HSK⟩ : ∃ sk, Hid (oa s9 (eL eText (nm.take kk)) = sk) := ⟨_, rfl⟩
    rw [HSK.out] at hp
    have HP : Hid (PnS w0 P wr sk (N + 2 + kk * 30002)) := hp
    have HKT : Hid (KeepT P ((w.alloc (.cells #[.int .i64 6, .int .i64 (f : Int)] 78)).alloc (.cells GS 73)) wr) := hkt
    obtain ⟨a0, l0, k0, c0, c1, f0, f1, _⟩ := hp.open
    clear g2
    have g2 := HGK.out wr hkt
    clear hp hkt HW1 HK1 HC
    by_cases hlt : kk < nm.length
    · have hltI : (kk : Int) < (nm.length : Int) := by omega
      cases sk with
      | none =>
        simp only [Option.isNone_none] at c1
        go_wp2
        go_end0
        exact ⟨rfl, by rw [eL_none eText nm s9 kk HSK.out]; exact HP.out.mono (by omega), (KeepT.of_below HBL.out).trans HKT.out⟩
      | some Lk =>
        simp only [Option.isNone_some] at c1
        have HNX : Hid (oa s9 (eL eText (nm.take (kk + 1))) = oa (some Lk) (eText (nm.getD kk ⟨#[]⟩))) := by
          show _ = _
          rw [eL_take eText nm ⟨#[]⟩ kk hlt, ← oa_assoc, HSK.out]
        have hm : nm.getD kk ⟨#[]⟩ ∈ nm := by rw [List.getD_eq_getElem?_getD, List.getElem?_eq_getElem hlt]; exact List.getElem_mem hlt
        have hsz := HRS.out _ hm
        obtain ⟨bb, off, rfl, y0⟩ := (SRow.below HR.out HP.out.bel) kk hlt
        clear hm HR HRS
        generalize nm.getD kk ⟨#[]⟩ = u at *
        have HC2 : Hid (Calls Tryz.prog 48 #[(.pointer (some ⟨P, 0, none⟩)), .string u] wr (PP w0 P wr (oa (some Lk) (eText u)) (N + 2 + kk * 30002 + 2 + u.size))) := ptext_any w0 wr P (some Lk) _ u (by omega) (by omega) HP.out
        go_wp2_with (go_at_call 48; refine Calls.mono HC2.out ?_; rintro e w2 ⟨rfl, hq, hk⟩; have HQ : Hid (PnS w0 P w2 (oa (some Lk) (eText u)) (N + 2 + kk * 30002 + 2 + u.size)) := hq; have HK2 : Hid (KeepT P wr w2) := hk; clear hq hk)
        exact ⟨⟨kk + 1, by omega, by go_num, by rw [HNX.out]; exact HQ.out.mono (by omega), HKT.out.trans HK2.out⟩, by simp [iof]; omega⟩
    · have e1 : nm.take kk = nm := List.take_of_length_le (by omega)
      go_wp2
      go_end0
      rw [e1] at HSK
      exact ⟨rfl, by rw [HSK.out]; exact HP.out.mono (by omega), (KeepT.of_below HBL.out).trans HKT.out⟩
set_option maxHeartbeats 2000000 in
set_option maxRecDepth 100000 in
theorem pf_counts (w0 w : World) (P : Nat) (st : Ls) (N f : Nat) (k i : Int) (T : Nat → ByteArray) (M : Nat → Int) (c : Bool) (s0 s1 s2 : Value) (ca : Option Addr) (cc : Nat) (ct : List Int) (hN : N ≤ 100000000000) (hl : ct.length ≤ 300) (hr : IRow w0 ca ct) (h : PnS w0 P w st N) :
    Calls Tryz.prog 36 #[(.pointer (some ⟨P, 0, none⟩)), .agg #[.int .i64 7, .int .i64 (f : Int)], .agg (gbc k i T M c s0 s1 s2 (.slice ca ct.length cc))] w (PP w0 P w (oa st (eRow (fun x => some (eInt x)) ct)) (N + 2 + 10000000)) := by
  have HB : Hid (((w.alloc (.cells #[.int .i64 7, .int .i64 (f : Int)] 78)).alloc (.cells (gbc k i T M c s0 s1 s2 (.slice ca ct.length cc)) 73)).heap[w.heap.size]? = some (.cells #[.int .i64 7, .int .i64 (f : Int)] 78 (0, 0))) := (two_boxes w _ _ 78 73).1
  have HG : Hid (((w.alloc (.cells #[.int .i64 7, .int .i64 (f : Int)] 78)).alloc (.cells (gbc k i T M c s0 s1 s2 (.slice ca ct.length cc)) 73)).heap[w.heap.size + 1]? = some (.cells (gbc k i T M c s0 s1 s2 (.slice ca ct.length cc)) 73 (0, 0))) := (two_boxes w _ _ 78 73).2
  have HBL : Hid (Below w.heap.size w ((w.alloc (.cells #[.int .i64 7, .int .i64 (f : Int)] 78)).alloc (.cells (gbc k i T M c s0 s1 s2 (.slice ca ct.length cc)) 73))) := (below_box _).trans ((below_box _).mono (by simp))
  have HY : Hid (PnS w0 P ((w.alloc (.cells #[.int .i64 7, .int .i64 (f : Int)] 78)).alloc (.cells (gbc k i T M c s0 s1 s2 (.slice ca ct.length cc)) 73)) st N) := PnS.below h HBL.out
  have HPW : Hid (P < w.heap.size) := by obtain ⟨v0, l0, hx0, _⟩ := h.ex; exact (Array.getElem?_eq_some_iff.1 hx0).1
  have HLO : Hid (w0.heap.size ≤ P) := h.low
  have b0 : ((w.alloc (.cells #[.int .i64 7, .int .i64 (f : Int)] 78)).alloc (.cells (gbc k i T M c s0 s1 s2 (.slice ca ct.length cc)) 73)).cell? ⟨w.heap.size, 0, none⟩ = some (.int .i64 7) := (box_at HB.out 0).1
  have HGK : Hid (∀ x, KeepT P ((w.alloc (.cells #[.int .i64 7, .int .i64 (f : Int)] 78)).alloc (.cells (gbc k i T M c s0 s1 s2 (.slice ca ct.length cc)) 73)) x → x.cell? ⟨w.heap.size + 1, 28, none⟩ = some (.slice ca ct.length cc)) := fun x hx => by
    rw [(box_at (KeepT.box hx HG.out (by have := HPW.out; omega) (by decide)) 28).1]; exact (gbc_r ..).2.2.2.2
  have g2 := HGK.out _ (KeepT.refl _ _)
  have HC : Hid (Calls Tryz.prog 50 #[(.pointer (some ⟨P, 0, none⟩)), .int .i64 (ct.length : Int)] ((w.alloc (.cells #[.int .i64 7, .int .i64 (f : Int)] 78)).alloc (.cells (gbc k i T M c s0 s1 s2 (.slice ca ct.length cc)) 73)) (PP w0 P ((w.alloc (.cells #[.int .i64 7, .int .i64 (f : Int)] 78)).alloc (.cells (gbc k i T M c s0 s1 s2 (.slice ca ct.length cc)) 73)) (oa st (eSh ct.length)) (N + 2))) := short_any w0 _ P st N ct.length (by omega) (by omega) HY.out
  have e0 := row_split (fun x => some (eInt x)) st ct (by omega)
  have HR : Hid (IRow w0 ca ct) := hr
  rw [e0]
  generalize oa st (eSh ct.length) = s9 at *
  clear h HB HG HY e0
  clear hr
  generalize (gbc k i T M c s0 s1 s2 (.slice ca ct.length cc)) = GS at *
  go_enter Tryz.func36, Tryz.ntmps36
  go_wp2_with (go_at_call 50; refine Calls.mono HC.out ?_; rintro e w1 ⟨rfl, hw1, hk1⟩; have HW1 : Hid (PnS w0 P w1 s9 (N + 2)) := hw1; have HK1 : Hid (KeepT P ((w.alloc (.cells #[.int .i64 7, .int .i64 (f : Int)] 78)).alloc (.cells GS 73)) w1) := hk1; clear hw1 hk1 b0 g2; have g2 := HGK.out w1 HK1.out)
  go_loopw [11] (fun iv wr => ∃ kk : Nat, kk ≤ ct.length ∧ iv = .int .i64 kk ∧ PnS w0 P wr (oa s9 (eL (fun x => some (eInt x)) (ct.take kk))) (N + 2 + kk * 8) ∧ KeepT P ((w.alloc (.cells #[.int .i64 7, .int .i64 (f : Int)] 78)).alloc (.cells GS 73)) wr) (fun iv _ => ct.length - (iof iv).toNat)
  case atStart => exact ⟨0, by omega, rfl, by simpa [eL, oa_nil] using HW1.out, HK1.out⟩
  case round =>
    obtain ⟨kk, hkk, rfl, hp, hkt⟩ := hrel
    obtain ⟨sk, HSK⟩ : ∃ sk, Hid (oa s9 (eL (fun x => some (eInt x)) (ct.take kk)) = sk) := ⟨_, rfl⟩
    rw [HSK.out] at hp
    have HP : Hid (PnS w0 P wr sk (N + 2 + kk * 8)) := hp
    have HKT : Hid (KeepT P ((w.alloc (.cells #[.int .i64 7, .int .i64 (f : Int)] 78)).alloc (.cells GS 73)) wr) := hkt
    obtain ⟨a0, l0, k0, c0, c1, f0, f1, _⟩ := hp.open
    clear g2
    have g2 := HGK.out wr hkt
    clear hp hkt HW1 HK1 HC
    by_cases hlt : kk < ct.length
    · have hltI : (kk : Int) < (ct.length : Int) := by omega
      cases sk with
      | none =>
        simp only [Option.isNone_none] at c1
        go_wp2
        go_end0
        exact ⟨rfl, by rw [eL_none (fun x => some (eInt x)) ct s9 kk HSK.out]; exact HP.out.mono (by omega), (KeepT.of_below HBL.out).trans HKT.out⟩
      | some Lk =>
        simp only [Option.isNone_some] at c1
        have HNX : Hid (oa s9 (eL (fun x => some (eInt x)) (ct.take (kk + 1))) = oa (some Lk) (some (eInt (ct.getD kk 0)))) := by
          show _ = _
          rw [eL_take (fun x => some (eInt x)) ct 0 kk hlt, ← oa_assoc, HSK.out]
        obtain ⟨bb, off, rfl, y0⟩ := (IRow.below HR.out HP.out.bel) kk hlt
        have HIX : Hid (∀ (x : World) (v : Value) s M', PnS w0 P (x.setCell ⟨P, 0, none⟩ v) s M' → x.cell? ⟨bb, off + kk, none⟩ = some (.int .i64 (ct.getD kk 0))) := fun x v s M' hx => by
          obtain ⟨b9, o9, e9, q9⟩ := (irow_keep (IRow.below HR.out hx.bel) (w' := x) (fun j hj b9 o9 e9 => by
            have hb9 := IRow.lt HR.out hj e9
            rw [heap_setCell_other x ⟨P, 0, none⟩ b9 v (by have := HLO.out; show b9 ≠ P; omega)])) kk hlt
          injection e9 with e9
          injection e9 with e1 e2 _
          rw [e1, e2]
          exact q9
        generalize ct.getD kk 0 = m at *
        have HU : Hid (IntKind.u64.wrap m = ((un m : Nat) : Int) ∧ un m ≤ 18446744073709551615) := ⟨u64_un m, by have := un_lt m; omega⟩
        have eU := HU.out.1
        rw [show eInt m = lay 8 (un m) from rfl] at HNX
        generalize un m = U at *
        clear HR
        go_wp2_with fail
        have HGK2 : Hid (∀ x, KeepT P wr.drew x → x.cell? ⟨w.heap.size + 1, 28, none⟩ = some (.slice (some ⟨bb, off, none⟩) ct.length cc)) := fun x hx => HGK.out x ((HKT.out.trans (KeepT.of_below (below_drew _))).trans hx)
        obtain ⟨a3, k3, c3, hx3, hC⟩ := pen_lay (by omega) (PnS.below HP.out (below_drew _))
        have HC : Hid (Calls Tryz.prog 35 #[.slice a3 k3 c3, .int .i64 8, .int .u64 (U : Int)] wr.drew (PL w0 P wr.drew (oa (some Lk) (some (lay 8 U))) (N + 2 + kk * 8 + 8))) := hC 8 U (by decide) HU.out.2
        have HX3 : Hid (wr.drew.heap[P]? = some (.cells #[.slice a3 k3 c3, .bool (some Lk : Ls).isNone] 99 (0, 0))) := hx3
        obtain ⟨d0, d1, e0, e1⟩ := pen_cells HX3.out
        have hS0 : wr.drew.cell? ⟨P, 0, none⟩ = some (.slice a3 k3 c3) ∧ wr.drew.cell? ⟨w.heap.size + 1, 28, none⟩ = some (.slice (some ⟨bb, off, none⟩) ct.length cc) ∧ wr.drew.cell? ⟨bb, off + kk, none⟩ = some (.int .i64 m) := ⟨d0, g2, y0⟩
        clear hx3 hC d0 d1 e0 e1
        refine wp_region_lat (fun y : World => y.cell? ⟨P, 0, none⟩ = some (.slice a3 k3 c3) ∧ y.cell? ⟨w.heap.size + 1, 28, none⟩ = some (.slice (some ⟨bb, off, none⟩) ct.length cc) ∧ y.cell? ⟨bb, off + kk, none⟩ = some (.int .i64 m)) 14 (by kernel_rfl) hS0 (fun hHeld => ?_)
        refine lat_take 0 (v := ?_) rfl (by kernel_rfl) (by kernel_rfl) (by kernel_rfl) (by kernel_rfl) (fun _ _ _ h => h) (by rfl) ?_ (by assumption) ?_
        rotate_left
        · (intro y hSy; (try dsimp only at hSy); (try obtain ⟨q0, q1, q2⟩ := hSy); go_simp <;> with_reducible rfl)
        try simp only [Act.put, List.setIfInBounds_toArray, List.set_cons_zero, List.set_cons_succ]
        refine lat_take 1 (v := ?_) rfl (by kernel_rfl) (by kernel_rfl) (by kernel_rfl) (by kernel_rfl) (fun _ _ _ h => h) (by rfl) ?_ (by assumption) ?_
        rotate_left
        · (intro y hSy; (try dsimp only at hSy); (try obtain ⟨q0, q1, q2⟩ := hSy); go_simp <;> with_reducible rfl)
        try simp only [Act.put, List.setIfInBounds_toArray, List.set_cons_zero, List.set_cons_succ]
        refine lat_take 2 (v := ?_) rfl (by kernel_rfl) (by kernel_rfl) (by kernel_rfl) (by kernel_rfl) (fun _ _ _ h => h) (by rfl) ?_ (by assumption) ?_
        rotate_left
        · (intro y hSy; (try dsimp only at hSy); (try obtain ⟨q0, q1, q2⟩ := hSy); go_simp <;> with_reducible rfl)
        try simp only [Act.put, List.setIfInBounds_toArray, List.set_cons_zero, List.set_cons_succ]
        refine lat_take 3 (v := ?_) rfl (by kernel_rfl) (by kernel_rfl) (by kernel_rfl) (by kernel_rfl) (fun _ _ _ h => h) (by rfl) ?_ (by assumption) ?_
        rotate_left
        · (intro y hSy; (try dsimp only at hSy); (try obtain ⟨q0, q1, q2⟩ := hSy); go_simp <;> with_reducible rfl)
        try simp only [Act.put, List.setIfInBounds_toArray, List.set_cons_zero, List.set_cons_succ]
        refine lat_take 4 (v := ?_) rfl (by kernel_rfl) (by kernel_rfl) (by kernel_rfl) (by kernel_rfl) (fun _ _ _ h => h) (by rfl) ?_ (by assumption) ?_
        rotate_left
        · (intro y hSy; (try dsimp only at hSy); (try obtain ⟨q0, q1, q2⟩ := hSy); go_simp <;> with_reducible rfl)
        try simp only [Act.put, List.setIfInBounds_toArray, List.set_cons_zero, List.set_cons_succ]
        refine lat_take 5 (v := ?_) rfl (by kernel_rfl) (by kernel_rfl) (by kernel_rfl) (by kernel_rfl) (fun _ _ _ h => h) (by rfl) ?_ (by assumption) ?_
        rotate_left
        · (intro y hSy; (try dsimp only at hSy); (try obtain ⟨q0, q1, q2⟩ := hSy); go_simp <;> with_reducible rfl)
        try simp only [Act.put, List.setIfInBounds_toArray, List.set_cons_zero, List.set_cons_succ]
        refine lat_take 6 (v := ?_) rfl (by kernel_rfl) (by kernel_rfl) (by kernel_rfl) (by kernel_rfl) (fun _ _ _ h => h) (by rfl) ?_ (by assumption) ?_
        rotate_left
        · (intro y hSy; (try dsimp only at hSy); (try obtain ⟨q0, q1, q2⟩ := hSy); go_simp <;> with_reducible rfl)
        try simp only [Act.put, List.setIfInBounds_toArray, List.set_cons_zero, List.set_cons_succ]
        refine lat_take 7 (v := ?_) rfl (by kernel_rfl) (by kernel_rfl) (by kernel_rfl) (by kernel_rfl) (fun _ _ _ h => h) (by rfl) ?_ (by assumption) ?_
        rotate_left
        · (intro y hSy; (try dsimp only at hSy); (try obtain ⟨q0, q1, q2⟩ := hSy); go_simp <;> with_reducible rfl)
        try simp only [Act.put, List.setIfInBounds_toArray, List.set_cons_zero, List.set_cons_succ]
        refine lat_take 8 (v := ?_) rfl (by kernel_rfl) (by kernel_rfl) (by kernel_rfl) (by kernel_rfl) (fun _ _ _ h => h) (by rfl) ?_ (by assumption) ?_
        rotate_left
        · (intro y hSy; (try dsimp only at hSy); (try obtain ⟨q0, q1, q2⟩ := hSy); go_simp <;> with_reducible rfl)
        try simp only [Act.put, List.setIfInBounds_toArray, List.set_cons_zero, List.set_cons_succ]
        refine lat_take 9 (v := ?_) rfl (by kernel_rfl) (by kernel_rfl) (by kernel_rfl) (by kernel_rfl) (fun _ _ _ h => h) (by rfl) ?_ (by assumption) ?_
        rotate_left
        · (intro y hSy; (try dsimp only at hSy); (try obtain ⟨q0, q1, q2⟩ := hSy); go_simp <;> with_reducible rfl)
        try simp only [Act.put, List.setIfInBounds_toArray, List.set_cons_zero, List.set_cons_succ]
        refine lat_take 10 (v := ?_) rfl (by kernel_rfl) (by kernel_rfl) (by kernel_rfl) (by kernel_rfl) (fun _ _ _ h => h) (by rfl) ?_ (by assumption) ?_
        rotate_left
        · (intro y hSy; (try dsimp only at hSy); (try obtain ⟨q0, q1, q2⟩ := hSy); go_simp <;> with_reducible rfl)
        try simp only [Act.put, List.setIfInBounds_toArray, List.set_cons_zero, List.set_cons_succ]
        refine lat_one 11 rfl (by kernel_rfl) (by decide) (by rfl) (fun K hK => ?_)
        go_simp
        refine Calls.mono HC.out ?_
        rintro e w5 ⟨a5, k5, c5, rfl, hk5, hq5⟩
        have HQ5 : Hid (PnS w0 P (w5.setCell ⟨P, 0, none⟩ (.slice a5 k5 c5)) (oa (some Lk) (some (lay 8 U))) (N + 2 + kk * 8 + 8)) := hq5
        have HK5 : Hid (KeepT P ((w.alloc (.cells #[.int .i64 7, .int .i64 (f : Int)] 78)).alloc (.cells GS 73)) w5) := (HKT.out.trans (KeepT.of_below (below_drew _))).trans (hk5 P)
        obtain ⟨d0, d1, e0, e1⟩ := pen_cells (pen_box HX3.out hk5)
        have hS5 : w5.cell? ⟨P, 0, none⟩ = some (.slice a3 k3 c3) ∧ w5.cell? ⟨w.heap.size + 1, 28, none⟩ = some (.slice (some ⟨bb, off, none⟩) ct.length cc) ∧ w5.cell? ⟨bb, off + kk, none⟩ = some (.int .i64 m) := ⟨d0, HGK2.out w5 (hk5 P), HIX.out w5 _ _ _ hq5⟩
        clear hq5 hk5
        try dsimp only
        refine hK.out _ _ hS5 (fun hH2 => ?_)
        clear hK
        try simp only [Act.put, List.setIfInBounds_toArray, List.set_cons_zero, List.set_cons_succ]
        refine lat_take 12 (v := ?_) rfl (by kernel_rfl) (by kernel_rfl) (by kernel_rfl) (by kernel_rfl) (fun _ _ _ h => h) (by rfl) ?_ (by assumption) ?_
        rotate_left
        · (intro y hSy; (try dsimp only at hSy); (try obtain ⟨q0, q1, q2⟩ := hSy); go_simp <;> with_reducible rfl)
        try simp only [Act.put, List.setIfInBounds_toArray, List.set_cons_zero, List.set_cons_succ]
        refine lat_take 13 (v := ?_) rfl (by kernel_rfl) (by kernel_rfl) (by kernel_rfl) (by kernel_rfl) (fun _ _ _ h => h) (by rfl) ?_ (by assumption) ?_
        rotate_left
        · (intro y hSy; (try dsimp only at hSy); (try obtain ⟨q0, q1, q2⟩ := hSy); go_simp <;> with_reducible rfl)
        try simp only [Act.put, List.setIfInBounds_toArray, List.set_cons_zero, List.set_cons_succ]
        refine lat_last 14 rfl (by kernel_rfl) (by decide) (by kernel_rfl) (by rfl) (fun K hK => ?_)
        go_simp
        try dsimp only
        refine hK.out _ _ ?_
        clear hK
        try simp only [Act.put, List.setIfInBounds_toArray, List.set_cons_zero, List.set_cons_succ]
        go_wp2_with fail
        exact ⟨⟨kk + 1, by omega, by go_num, by rw [HNX.out]; exact HQ5.out.mono (by omega), HK5.out.trans (KeepT.setCell _ _ _ _)⟩, by simp [iof]; omega⟩
    · have e1 : ct.take kk = ct := List.take_of_length_le (by omega)
      go_wp2
      go_end0
      rw [e1] at HSK
      exact ⟨rfl, by rw [HSK.out]; exact HP.out.mono (by omega), (KeepT.of_below HBL.out).trans HKT.out⟩
set_option maxHeartbeats 2000000 in
set_option maxRecDepth 100000 in
theorem pf_bats (w0 w : World) (P : Nat) (st : Ls) (N f : Nat) (k i : Int) (T : Nat → ByteArray) (M : Nat → Int) (c : Bool) (s0 s2 s3 : Value) (ba : Option Addr) (bc : Nat) (ss : List Bs) (hN : N ≤ 100000000000) (hl : ss.length ≤ 300) (ht : Tab w0) (hr : BRow w0 ba ss) (h : PnS w0 P w st N) :
    Calls Tryz.prog 36 #[(.pointer (some ⟨P, 0, none⟩)), .agg #[.int .i64 5, .int .i64 (f : Int)], .agg (gbc k i T M c s0 (.slice ba ss.length bc) s2 s3)] w (PP w0 P w (oa st (eRow eBat (ss.map (·.b)))) (N + 2 + 10000000)) := by
  have HB : Hid (((w.alloc (.cells #[.int .i64 5, .int .i64 (f : Int)] 78)).alloc (.cells (gbc k i T M c s0 (.slice ba ss.length bc) s2 s3) 73)).heap[w.heap.size]? = some (.cells #[.int .i64 5, .int .i64 (f : Int)] 78 (0, 0))) := (two_boxes w _ _ 78 73).1
  have HG : Hid (((w.alloc (.cells #[.int .i64 5, .int .i64 (f : Int)] 78)).alloc (.cells (gbc k i T M c s0 (.slice ba ss.length bc) s2 s3) 73)).heap[w.heap.size + 1]? = some (.cells (gbc k i T M c s0 (.slice ba ss.length bc) s2 s3) 73 (0, 0))) := (two_boxes w _ _ 78 73).2
  have HBL : Hid (Below w.heap.size w ((w.alloc (.cells #[.int .i64 5, .int .i64 (f : Int)] 78)).alloc (.cells (gbc k i T M c s0 (.slice ba ss.length bc) s2 s3) 73))) := (below_box _).trans ((below_box _).mono (by simp))
  have HY : Hid (PnS w0 P ((w.alloc (.cells #[.int .i64 5, .int .i64 (f : Int)] 78)).alloc (.cells (gbc k i T M c s0 (.slice ba ss.length bc) s2 s3) 73)) st N) := PnS.below h HBL.out
  have HPW : Hid (P < w.heap.size) := by obtain ⟨v0, l0, hx0, _⟩ := h.ex; exact (Array.getElem?_eq_some_iff.1 hx0).1
  have HLO : Hid (w0.heap.size ≤ P) := h.low
  have b0 : ((w.alloc (.cells #[.int .i64 5, .int .i64 (f : Int)] 78)).alloc (.cells (gbc k i T M c s0 (.slice ba ss.length bc) s2 s3) 73)).cell? ⟨w.heap.size, 0, none⟩ = some (.int .i64 5) := (box_at HB.out 0).1
  have HGK : Hid (∀ x, KeepT P ((w.alloc (.cells #[.int .i64 5, .int .i64 (f : Int)] 78)).alloc (.cells (gbc k i T M c s0 (.slice ba ss.length bc) s2 s3) 73)) x → x.cell? ⟨w.heap.size + 1, 26, none⟩ = some (.slice ba ss.length bc)) := fun x hx => by
    rw [(box_at (KeepT.box hx HG.out (by have := HPW.out; omega) (by decide)) 26).1]; exact (gbc_r ..).2.2.1
  have g2 := HGK.out _ (KeepT.refl _ _)
  have HC : Hid (Calls Tryz.prog 50 #[(.pointer (some ⟨P, 0, none⟩)), .int .i64 (ss.length : Int)] ((w.alloc (.cells #[.int .i64 5, .int .i64 (f : Int)] 78)).alloc (.cells (gbc k i T M c s0 (.slice ba ss.length bc) s2 s3) 73)) (PP w0 P ((w.alloc (.cells #[.int .i64 5, .int .i64 (f : Int)] 78)).alloc (.cells (gbc k i T M c s0 (.slice ba ss.length bc) s2 s3) 73)) (oa st (eSh ss.length)) (N + 2))) := short_any w0 _ P st N ss.length (by omega) (by omega) HY.out
  have e0 := row_split eBat st (ss.map (·.b)) (by simp; omega)
  rw [List.length_map] at e0
  have HR : Hid (BRow w0 ba ss) := hr
  have HT : Hid (Tab w0) := ht
  rw [e0]
  generalize oa st (eSh ss.length) = s9 at *
  clear h HB HG HY e0
  clear hr ht
  generalize (gbc k i T M c s0 (.slice ba ss.length bc) s2 s3) = GS at *
  go_enter Tryz.func36, Tryz.ntmps36
  go_wp2_with (go_at_call 50; refine Calls.mono HC.out ?_; rintro e w1 ⟨rfl, hw1, hk1⟩; have HW1 : Hid (PnS w0 P w1 s9 (N + 2)) := hw1; have HK1 : Hid (KeepT P ((w.alloc (.cells #[.int .i64 5, .int .i64 (f : Int)] 78)).alloc (.cells GS 73)) w1) := hk1; clear hw1 hk1 b0 g2; have g2 := HGK.out w1 HK1.out)
  go_loopw [7] (fun iv wr => ∃ kk : Nat, kk ≤ ss.length ∧ iv = .int .i64 kk ∧ PnS w0 P wr (oa s9 (eL eBat ((ss.map (·.b)).take kk))) (N + 2 + kk * 6000) ∧ KeepT P ((w.alloc (.cells #[.int .i64 5, .int .i64 (f : Int)] 78)).alloc (.cells GS 73)) wr) (fun iv _ => ss.length - (iof iv).toNat)
  case atStart => exact ⟨0, by omega, rfl, by simpa [eL, oa_nil] using HW1.out, HK1.out⟩
  case round =>
    obtain ⟨kk, hkk, rfl, hp, hkt⟩ := hrel
    obtain ⟨sk, HSK⟩ : ∃ sk, Hid (oa s9 (eL eBat ((ss.map (·.b)).take kk)) = sk) := ⟨_, rfl⟩
    rw [HSK.out] at hp
    have HP : Hid (PnS w0 P wr sk (N + 2 + kk * 6000)) := hp
    have HKT : Hid (KeepT P ((w.alloc (.cells #[.int .i64 5, .int .i64 (f : Int)] 78)).alloc (.cells GS 73)) wr) := hkt
    obtain ⟨a0, l0, k0, c0, c1, f0, f1, _⟩ := hp.open
    clear g2
    have g2 := HGK.out wr hkt
    clear hp hkt HW1 HK1 HC
    by_cases hlt : kk < ss.length
    · have hltI : (kk : Int) < (ss.length : Int) := by omega
      cases sk with
      | none =>
        simp only [Option.isNone_none] at c1
        go_wp2
        go_end0
        exact ⟨rfl, by rw [eL_none eBat (ss.map (·.b)) s9 kk HSK.out]; exact HP.out.mono (by omega), (KeepT.of_below HBL.out).trans HKT.out⟩
      | some Lk =>
        simp only [Option.isNone_some] at c1
        have hgd : (ss.map (·.b)).getD kk bsz.b = (ss.getD kk bsz).b := by simp [List.getD, hlt]
        have HNX : Hid (oa s9 (eL eBat ((ss.map (·.b)).take (kk + 1))) = oa (some Lk) (eBat (ss.getD kk bsz).b)) := by
          show _ = _
          rw [eL_take eBat (ss.map (·.b)) bsz.b kk (by simpa using hlt), ← oa_assoc, HSK.out, hgd]
        obtain ⟨bb, off, rfl, z0, z1, z2, z3, z4⟩ := (BCells.below HR.out.1 HP.out.bel) kk hlt
        obtain ⟨hrr, hi, hl9, _⟩ := HR.out.2 kk hlt
        have HE0 : Hid (∀ x, Below w0.heap.size w0 x → Calls Tryz.prog 51 #[bav (ss.getD kk bsz).b (ss.getD kk bsz).a (ss.getD kk bsz).cap] x fun e w' => ∃ v, e = .returned (.tuple #[v, .int .i64 (chkB (ss.getD kk bsz).b)]) ∧ w'.ownsRow x.heap.size 5 1 v (encBR (ss.getD kk bsz).b).length (cv (encBR (ss.getD kk bsz).b)) ∧ Below x.heap.size x w') := fun x hx => rencodeB_any _ _ _ hi hl9 x (Tab.below HT.out hx) (hrr.below hx)
        clear hrr hi hl9 hgd HR
        generalize ss.getD kk bsz = r at *
        obtain ⟨h6, hby⟩ := encBR_le r.b
        have HEB : Hid ((∀ i, (encBR r.b).getD i 0 < 256) ∧ Byt (encBR r.b)) := ⟨lt_mem hby, hby⟩
        have HE : Hid (∀ x, Below w0.heap.size w0 x → Calls Tryz.prog 51 #[.agg #[.int .i64 r.b.base, .int .i64 r.b.span, .int .i64 r.b.prod, .int .i64 r.b.seq, .slice r.a r.b.rs.length r.cap]] x fun e w' => ∃ v, e = .returned (.tuple #[v, .int .i64 (chkB r.b)]) ∧ w'.ownsRow x.heap.size 5 1 v (encBR r.b).length (cv (encBR r.b)) ∧ Below x.heap.size x w') := HE0.out
        clear HE0 hby
        by_cases hc : chkB r.b = 0
        · have HEE : Hid (eBat r.b = some (encBR r.b)) := by show _ = _; unfold eBat encBR; rw [if_pos hc, if_pos hc]
          rw [hc] at HE
          generalize encBR r.b = E at *
          generalize eBat r.b = EE at *
          go_wp2_with (first
            | (go_at_call 51; refine Calls.mono (HE.out _ HP.out.bel) ?_; rintro e w2 ⟨v, rfl, hov, hbv⟩; obtain ⟨av, cv9, rfl, hrv, hnv⟩ := owns_sl hov HEB.out.1; have HRV : Hid (Row w2 av E) := hrv; have HNV : Hid (av = none → cv9 = 0) := hnv; have HP2 : Hid (PnS w0 P w2 (some Lk) (N + 2 + kk * 6000)) := PnS.below HP.out hbv; have HKV : Hid (KeepT P ((w.alloc (.cells #[.int .i64 5, .int .i64 (f : Int)] 78)).alloc (.cells GS 73)) w2) := HKT.out.trans (KeepT.of_below hbv); clear hov hbv hrv hnv c0 c1 f0 f1 z0 z1 z2 z3 z4 g2; have HP3 : Hid (PnS w0 P w2 (some Lk) (N + 2 + kk * 6000)) := HP2.out; have HK3 : Hid (KeepT P w2 w2) := KeepT.refl _ _; obtain ⟨a1, l1, k1, d0, d1, g0, g1, hx1, ho1, hb1, hl1, hs1⟩ := HP3.out.open; have HO1 : Hid (w2.ownsRow w0.heap.size 5 1 (.slice a1 l1.length k1) l1.length (cv l1)) := ho1; have HX1 : Hid (w2.heap[P]? = some (.cells #[.slice a1 l1.length k1, .bool ((some Lk) : Ls).isNone] 99 (0, 0))) := hx1; have HS1 : Hid (∀ L, (some Lk) = some L → l1 = L) := hs1; clear hx1 ho1 hs1; have tokA : True := trivial)
            | (at_builtin; have _h := tokA; refine wpList_append_rw (by rfl) _ _ rfl w0.heap.size _ l1 rfl HO1.out HP3.out.bel.size av E.length cv9 E rfl rfl HRV.out HNV.out (by omega) ?_; intro v' w3 ho3 hg3; obtain ⟨a3, c3, rfl⟩ := own_slice ho3; have hKA : ∀ B', KeepT B' w2 w3 := (fun B' => KeepT.grown HO1.out hg3); have hF := PnS.app (M := N + 2 + kk * 6000 + 6000) HX1.out hb1 hl1 HS1.out HP3.out.low ho3 (HP3.out.bel.grown hg3 HP3.out.bel.size (fun k hk => (HO1.out.lt k hk).1)) hKA HEB.out.2 (by omega); rw [List.length_append] at hF; have HF : Hid _ := hF.1; have HFK : Hid (KeepT P w2 _) := hF.2; clear d0 d1 g0 g1; obtain ⟨d0, d1, g0, g1⟩ := pen_cells (pen_box HX1.out hKA); try rw [List.length_append]; clear ho3 hg3 hF hKA _h tokA))
          exact ⟨⟨kk + 1, by omega, by go_num, by rw [HNX.out, HEE.out]; exact HF.out.mono (by omega), HKV.out.trans (HK3.out.trans HFK.out)⟩, by simp [iof]; omega⟩
        · have HEE : Hid (eBat r.b = none) := by show _ = _; unfold eBat; rw [if_neg hc]
          have hen : encBR r.b = [] := by unfold encBR; rw [if_neg hc]
          have HEN : Hid (∀ (x : World) (a : Option Addr), Row x a (encBR r.b)) := fun x a => by rw [hen]; exact Row.nil x a
          have hc2 : (chkB r.b != 0) = true := by simpa using hc
          clear hen
          generalize encBR r.b = E at *
          generalize eBat r.b = EE at *
          generalize chkB r.b = CB at *
          go_wp2_with (first
            | (go_at_call 51; refine Calls.mono (HE.out _ HP.out.bel) ?_; rintro e w2 ⟨v, rfl, hov, hbv⟩; obtain ⟨av, cv9, rfl, hrv, hnv⟩ := owns_sl hov HEB.out.1; have HRV : Hid (Row (w2.setCell ⟨P, 1, none⟩ (.bool true)) av E) := HEN.out _ _; have HNV : Hid (av = none → cv9 = 0) := hnv; have HP2 : Hid (PnS w0 P w2 (some Lk) (N + 2 + kk * 6000)) := PnS.below HP.out hbv; have HKV : Hid (KeepT P ((w.alloc (.cells #[.int .i64 5, .int .i64 (f : Int)] 78)).alloc (.cells GS 73)) w2) := HKT.out.trans (KeepT.of_below hbv); clear hov hbv hrv hnv c0 c1 f0 f1 z0 z1 z2 z3 z4 g2; obtain ⟨_, _, _, c0, c1, f0, f1, _⟩ := HP2.out.open; have HP3 : Hid (PnS w0 P (w2.setCell ⟨P, 1, none⟩ (.bool true)) none (N + 2 + kk * 6000)) := HP2.out.setBad.1; have HK3 : Hid (KeepT P w2 (w2.setCell ⟨P, 1, none⟩ (.bool true))) := HP2.out.setBad.2; obtain ⟨a1, l1, k1, d0, d1, g0, g1, hx1, ho1, hb1, hl1, hs1⟩ := HP3.out.open; have HO1 : Hid ((w2.setCell ⟨P, 1, none⟩ (.bool true)).ownsRow w0.heap.size 5 1 (.slice a1 l1.length k1) l1.length (cv l1)) := ho1; have HX1 : Hid ((w2.setCell ⟨P, 1, none⟩ (.bool true)).heap[P]? = some (.cells #[.slice a1 l1.length k1, .bool (none : Ls).isNone] 99 (0, 0))) := hx1; have HS1 : Hid (∀ L, none = some L → l1 = L) := hs1; clear hx1 ho1 hs1; have tokA : True := trivial)
            | (at_builtin; have _h := tokA; refine wpList_append_rw (by rfl) _ _ rfl w0.heap.size _ l1 rfl HO1.out HP3.out.bel.size av E.length cv9 E rfl rfl HRV.out HNV.out (by omega) ?_; intro v' w3 ho3 hg3; obtain ⟨a3, c3, rfl⟩ := own_slice ho3; have hKA : ∀ B', KeepT B' (w2.setCell ⟨P, 1, none⟩ (.bool true)) w3 := (fun B' => KeepT.grown HO1.out hg3); have hF := PnS.app (M := N + 2 + kk * 6000 + 6000) HX1.out hb1 hl1 HS1.out HP3.out.low ho3 (HP3.out.bel.grown hg3 HP3.out.bel.size (fun k hk => (HO1.out.lt k hk).1)) hKA HEB.out.2 (by omega); rw [List.length_append] at hF; have HF : Hid _ := hF.1; have HFK : Hid (KeepT P (w2.setCell ⟨P, 1, none⟩ (.bool true)) _) := hF.2; clear d0 d1 g0 g1; obtain ⟨d0, d1, g0, g1⟩ := pen_cells (pen_box HX1.out hKA); try rw [List.length_append]; clear ho3 hg3 hF hKA _h tokA))
          exact ⟨⟨kk + 1, by omega, by go_num, by rw [HNX.out, HEE.out]; exact HF.out.mono (by omega), HKV.out.trans (HK3.out.trans HFK.out)⟩, by simp [iof]; omega⟩
    · have e1 : (ss.map (·.b)).take kk = (ss.map (·.b)) := List.take_of_length_le (by simp; omega)
      go_wp2
      go_end0
      rw [e1] at HSK
      exact ⟨rfl, by rw [HSK.out]; exact HP.out.mono (by omega), (KeepT.of_below HBL.out).trans HKT.out⟩
end Go.Proofs.YtaooidckmepdeaaGreatDoor
namespace Go.Proofs.YtaooidckmepdeaaGreatDoor
set_option linter.unusedSimpArgs false
set_option linter.unusedVariables false
open Go.RowKit
set_option maxRecDepth 100000 in
theorem rowsA_0 (w : World) : Calls Tryz.prog 23 #[.int .i64 0, .bool true] w (RwP [] w) := by
  go_enter Tryz.func23, Tryz.ntmps23
  go_wp2
  go_ret
  exact ⟨⟨none, 0, rfl, .inl rfl⟩, Below.refl _ _⟩
set_option maxRecDepth 100000 in
theorem rowsA_1 (w : World) : Calls Tryz.prog 23 #[.int .i64 1, .bool true] w (RwP [] w) := by
  go_enter Tryz.func23, Tryz.ntmps23
  go_wp2
  go_ret
  exact ⟨⟨none, 0, rfl, .inl rfl⟩, Below.refl _ _⟩
set_option maxRecDepth 100000 in
theorem rowsA_2 (w : World) : Calls Tryz.prog 23 #[.int .i64 2, .bool true] w (RwP [] w) := by
  go_enter Tryz.func23, Tryz.ntmps23
  go_wp2
  go_ret
  exact ⟨⟨none, 0, rfl, .inl rfl⟩, Below.refl _ _⟩
set_option maxRecDepth 100000 in
theorem rowsA_3 (w : World) : Calls Tryz.prog 23 #[.int .i64 3, .bool true] w (RwP [17, 18] w) := by
  go_enter Tryz.func23, Tryz.ntmps23
  go_wp2
  go_ret
  refine ⟨⟨some ⟨w.heap.size, 0, none⟩, 2, rfl, .inr ⟨w.heap.size, #[.int .i64 6, .int .i64 17, .int .i64 7, .int .i64 18], rfl, heap_alloc_new w _, fun j hj => ?_⟩⟩, below_box _⟩
  match j, hj with
  | 0, _ => exact ⟨rfl, rfl⟩
  | 1, _ => exact ⟨rfl, rfl⟩
set_option maxRecDepth 100000 in
theorem rowsA_4 (w : World) : Calls Tryz.prog 23 #[.int .i64 4, .bool true] w (RwP [12, 15, 16] w) := by
  go_enter Tryz.func23, Tryz.ntmps23
  go_wp2
  go_ret
  refine ⟨⟨some ⟨w.heap.size, 0, none⟩, 3, rfl, .inr ⟨w.heap.size, #[.int .i64 2, .int .i64 12, .int .i64 2, .int .i64 15, .int .i64 2, .int .i64 16], rfl, heap_alloc_new w _, fun j hj => ?_⟩⟩, below_box _⟩
  match j, hj with
  | 0, _ => exact ⟨rfl, rfl⟩
  | 1, _ => exact ⟨rfl, rfl⟩
  | 2, _ => exact ⟨rfl, rfl⟩
set_option maxRecDepth 100000 in
theorem rowsA_5 (w : World) : Calls Tryz.prog 23 #[.int .i64 5, .bool true] w (RwP [15, 16, 19] w) := by
  go_enter Tryz.func23, Tryz.ntmps23
  go_wp2
  go_ret
  refine ⟨⟨some ⟨w.heap.size, 0, none⟩, 3, rfl, .inr ⟨w.heap.size, #[.int .i64 2, .int .i64 15, .int .i64 2, .int .i64 16, .int .i64 5, .int .i64 19], rfl, heap_alloc_new w _, fun j hj => ?_⟩⟩, below_box _⟩
  match j, hj with
  | 0, _ => exact ⟨rfl, rfl⟩
  | 1, _ => exact ⟨rfl, rfl⟩
  | 2, _ => exact ⟨rfl, rfl⟩
set_option maxRecDepth 100000 in
theorem rowsA_6 (w : World) : Calls Tryz.prog 23 #[.int .i64 6, .bool true] w (RwP [12, 15, 16] w) := by
  go_enter Tryz.func23, Tryz.ntmps23
  go_wp2
  go_ret
  refine ⟨⟨some ⟨w.heap.size, 0, none⟩, 3, rfl, .inr ⟨w.heap.size, #[.int .i64 2, .int .i64 12, .int .i64 2, .int .i64 15, .int .i64 2, .int .i64 16], rfl, heap_alloc_new w _, fun j hj => ?_⟩⟩, below_box _⟩
  match j, hj with
  | 0, _ => exact ⟨rfl, rfl⟩
  | 1, _ => exact ⟨rfl, rfl⟩
  | 2, _ => exact ⟨rfl, rfl⟩
set_option maxRecDepth 100000 in
theorem rowsA_7 (w : World) : Calls Tryz.prog 23 #[.int .i64 7, .bool true] w (RwP [] w) := by
  go_enter Tryz.func23, Tryz.ntmps23
  go_wp2
  go_ret
  exact ⟨⟨none, 0, rfl, .inl rfl⟩, Below.refl _ _⟩
set_option maxRecDepth 100000 in
theorem rowsA_8 (w : World) : Calls Tryz.prog 23 #[.int .i64 8, .bool true] w (RwP [12] w) := by
  go_enter Tryz.func23, Tryz.ntmps23
  go_wp2
  go_ret
  refine ⟨⟨some ⟨w.heap.size, 0, none⟩, 1, rfl, .inr ⟨w.heap.size, #[.int .i64 2, .int .i64 12], rfl, heap_alloc_new w _, fun j hj => ?_⟩⟩, below_box _⟩
  match j, hj with
  | 0, _ => exact ⟨rfl, rfl⟩
theorem rowsA_any (k : Int) (h0 : 0 ≤ k) (h8 : k ≤ 8) (w : World) : Calls Tryz.prog 23 #[.int .i64 k, .bool true] w (RwP (rowOr (rowA k)) w) := by
  rcases (show k = 0 ∨ k = 1 ∨ k = 2 ∨ k = 3 ∨ k = 4 ∨ k = 5 ∨ k = 6 ∨ k = 7 ∨ k = 8 by omega) with rfl | rfl | rfl | rfl | rfl | rfl | rfl | rfl | rfl
  · exact rowsA_0 w
  · exact rowsA_1 w
  · exact rowsA_2 w
  · exact rowsA_3 w
  · exact rowsA_4 w
  · exact rowsA_5 w
  · exact rowsA_6 w
  · exact rowsA_7 w
  · exact rowsA_8 w
theorem run_build73s (k i : Int) (a1 a2 a3 : Option Addr) (n1 n2 n3 c1 c2 c3 : Nat) (x : World) : (Instr.build 73 #[(0, .int .i64 k), (1, .int .i64 i), (6, .slice a1 n1 c1), (7, .slice a2 n2 c2), (8, .slice a3 n3 c3)]).run Tryz.prog x = .ok (.agg (gbc k i (fun _ => ⟨#[]⟩) (fun _ => 0) false (.slice none 0 0) (.slice a1 n1 c1) (.slice a2 n2 c2) (.slice a3 n3 c3))) x := by
  refine run_build (P := Tryz.prog) x 73 _ _ ?_
  kernel_rfl
theorem gba_lit (k i : Int) (s1 s2 s3 : Value) (m12 m15 m16 : Int) : (((gbc k i (fun _ => ⟨#[]⟩) (fun _ => 0) false (.slice none 0 0) s1 s2 s3).setIfInBounds 16 (.int .i64 m12)).setIfInBounds 19 (.int .i64 m15)).setIfInBounds 20 (.int .i64 m16) = gbc k i (fun _ => ⟨#[]⟩) (fun f => if f = 12 then m12 else if f = 15 then m15 else if f = 16 then m16 else 0) false (.slice none 0 0) s1 s2 s3 := by
  kernel_rfl
theorem gba_eq (k i : Int) (b : Bd) (p : Pt) (hv : VB b) (hz : ∀ f, f ≤ 14 → f ≠ 12 → b f = fz) : (((gbc k i (fun _ => ⟨#[]⟩) (fun _ => 0) false (.slice none 0 0) (.slice p.ba p.bs.length p.bc) (.slice p.na (b 17).nm.length p.nc) (.slice p.ca (b 18).ct.length p.cc)).setIfInBounds 16 (.int .i64 (b 12).n)).setIfInBounds 19 (.int .i64 (b 15).n)).setIfInBounds 20 (.int .i64 (b 16).n) = (gba k i b p) := by
  rw [gba_lit]
  obtain ⟨p0, p1, p11, p17, p18, p19, pt⟩ := hv.parts
  refine gbc_ext (fun f hf => rfl) (fun f hf => ?_)
  by_cases hl : f ≤ 14 ∧ f ≠ 12
  · rw [hz f hl.1 hl.2, if_neg hl.2, if_neg (by omega), if_neg (by omega)]; rfl
  · rcases (show f = 12 ∨ f = 15 ∨ f = 16 ∨ f = 17 ∨ f = 18 ∨ f = 19 by omega) with rfl | rfl | rfl | rfl | rfl | rfl
    · rfl
    · rfl
    · rfl
    · exact p17.symm
    · exact p18.symm
    · exact p19.symm
theorem rsx_box {x : World} {X : Nat} {k i d : Int} {b : Bd} {p : Pt} (h : x.heap[X]? = some (.cells (rsc k i d b p) 38 (0, 0))) : x.cell? ⟨X, 0, none⟩ = some (.int .i64 k) ∧ x.cell? ⟨X, 1, none⟩ = some (.int .i64 i) ∧ x.cell? ⟨X, 2, none⟩ = some (.int .i64 d) ∧ x.cell? ⟨X, 3, none⟩ = some (.int .i64 (b 12).n) ∧ x.cell? ⟨X, 4, none⟩ = some (.int .i64 (b 15).n) ∧ x.cell? ⟨X, 5, none⟩ = some (.int .i64 (b 16).n) ∧ x.cell? ⟨X, 6, none⟩ = some (.slice p.na (b 17).nm.length p.nc) ∧ x.cell? ⟨X, 7, none⟩ = some (.slice p.ca (b 18).ct.length p.cc) ∧ x.cell? ⟨X, 8, none⟩ = some (.slice p.ba p.bs.length p.bc) :=
  ⟨(box_at h 0).1, (box_at h 1).1, (box_at h 2).1, (box_at h 3).1, (box_at h 4).1, (box_at h 5).1, (box_at h 6).1, (box_at h 7).1, (box_at h 8).1⟩
set_option maxHeartbeats 400000 in
set_option maxRecDepth 100000 in
theorem answer_any (k i d : Int) (b : Bd) (p : Pt) (hv : VB b) (hz : ∀ f, f ≤ 14 → f ≠ 12 → b f = fz) (w : World) :
    Calls Tryz.prog 34 #[.agg (rsc k i d b p)] w fun e w' => e = .returned (.agg (gba k i b p)) ∧ Below w.heap.size w w' := by
  have KA : Hid (∀ x : World, (Instr.alloc 73 true (.tuple #[])).run Tryz.prog x = .ok (.pointer (some ⟨x.heap.size, 0, none⟩)) (x.alloc (.cells zbg 73))) := run_alloc73
  have KB : Hid (∀ x : World, (Instr.build 73 #[(0, .int .i64 k), (1, .int .i64 i), (6, (.slice p.ba p.bs.length p.bc)), (7, (.slice p.na (b 17).nm.length p.nc)), (8, (.slice p.ca (b 18).ct.length p.cc))]).run Tryz.prog x = .ok (.agg (gbc k i (fun _ => ⟨#[]⟩) (fun _ => 0) false (.slice none 0 0) (.slice p.ba p.bs.length p.bc) (.slice p.na (b 17).nm.length p.nc) (.slice p.ca (b 18).ct.length p.cc))) x) := run_build73s k i p.ba p.na p.ca p.bs.length (b 17).nm.length (b 18).ct.length p.bc p.nc p.cc
  have HQ : Hid ((((gbc k i (fun _ => ⟨#[]⟩) (fun _ => 0) false (.slice none 0 0) (.slice p.ba p.bs.length p.bc) (.slice p.na (b 17).nm.length p.nc) (.slice p.ca (b 18).ct.length p.cc)).setIfInBounds 16 (.int .i64 (b 12).n)).setIfInBounds 19 (.int .i64 (b 15).n)).setIfInBounds 20 (.int .i64 (b 16).n) = (gba k i b p)) := gba_eq k i b p hv hz
  have HG1 : Hid ((gbc k i (fun _ => ⟨#[]⟩) (fun _ => 0) false (.slice none 0 0) (.slice p.ba p.bs.length p.bc) (.slice p.na (b 17).nm.length p.nc) (.slice p.ca (b 18).ct.length p.cc)).size = 29) := gbc_size _ _ _ _ _ _ _ _ _
  have HG2 : Hid ((gbc k i (fun _ => ⟨#[]⟩) (fun _ => 0) false (.slice none 0 0) (.slice p.ba p.bs.length p.bc) (.slice p.na (b 17).nm.length p.nc) (.slice p.ca (b 18).ct.length p.cc)).all (·.oneCell') = true) := gbc_one _ _ _ _ _ _ _ _ _ _ _ _ _ _ _ _ _
  have HF1 : Hid ((gba k i b p).size = 29) := gbc_size _ _ _ _ _ _ _ _ _
  have HF2 : Hid ((gba k i b p).all (·.oneCell') = true) := gbc_one _ _ _ _ _ _ _ _ _ _ _ _ _ _ _ _ _
  have HX0 : Hid (((w.alloc (.cells (rsc k i d b p) 38)).alloc (.cells zbg 73)).heap[w.heap.size]? = some (.cells (rsc k i d b p) 38 (0, 0))) := (two_boxes w (rsc k i d b p) zbg 38 73).1
  have HN : Hid (BG w 38 zbg (rsc k i d b p) (gbc k i (fun _ => ⟨#[]⟩) (fun _ => 0) false (.slice none 0 0) (.slice p.ba p.bs.length p.bc) (.slice p.na (b 17).nm.length p.nc) (.slice p.ca (b 18).ct.length p.cc)) ((((w.alloc (.cells (rsc k i d b p) 38)).alloc (.cells zbg 73)).alloc (.cells zbg 73)).setRow (w.heap.size + 2) (gbc k i (fun _ => ⟨#[]⟩) (fun _ => 0) false (.slice none 0 0) (.slice p.ba p.bs.length p.bc) (.slice p.na (b 17).nm.length p.nc) (.slice p.ca (b 18).ct.length p.cc)))) := BG.new w 38 _ _ (gbc_size _ _ _ _ _ _ _ _ _)
  have HZ : Hid ((((w.alloc (.cells (rsc k i d b p) 38)).alloc (.cells zbg 73)).alloc (.cells zbg 73)).heap[w.heap.size + 2]? = some (.cells zbg 73 (0, 0))) := by
    have q := heap_alloc_new ((w.alloc (.cells (rsc k i d b p) 38)).alloc (.cells zbg 73)) (.cells zbg 73)
    rw [show ((w.alloc (.cells (rsc k i d b p) 38)).alloc (.cells zbg 73)).heap.size = w.heap.size + 2 by simp] at q
    exact q
  obtain ⟨c0, c1, c2, c3, c4, c5, c6, c7, c8⟩ := rsx_box HX0.out
  clear HX0
  have tokA : True := trivial
  generalize (gbc k i (fun _ => ⟨#[]⟩) (fun _ => 0) false (.slice none 0 0) (.slice p.ba p.bs.length p.bc) (.slice p.na (b 17).nm.length p.nc) (.slice p.ca (b 18).ct.length p.cc)) = CS0 at *
  generalize (gba k i b p) = CSF at *
  have HZS : Hid (zbg.size = 29) := gbc_size _ _ _ _ _ _ _ _ _
  generalize zbg = ZB at *
  go_enter Tryz.func34, Tryz.ntmps34
  go_wp2_with (first
    | (have _h := tokA; refine wpList_allocZ KA.out rfl rfl (w.heap.size + 1) (by simp) ?_; clear _h tokA; have tokB : True := trivial; simp only [Act.put, List.setIfInBounds_toArray, List.set_cons_zero, List.set_cons_succ])
    | (have _h := tokB; refine wpList_allocZ KA.out rfl rfl (w.heap.size + 2) (by simp) ?_; clear _h tokB; have tok1 : True := trivial; simp only [Act.put, List.setIfInBounds_toArray, List.set_cons_zero, List.set_cons_succ])
    | (refine wpList_buildZ (parts := #[(0, .tmp 5), (1, .tmp 7), (6, .tmp 9), (7, .tmp 11), (8, .tmp 13)]) KB.out rfl rfl (by rfl) ?_; simp only [Act.put, List.setIfInBounds_toArray, List.set_cons_zero, List.set_cons_succ])
    | (have _h := tok1; refine wpList_store_row rfl 73 _ _ rfl (w.heap.size + 2) CS0 rfl rfl 73 ZB (by exact HZ.out) (by rw [HG1.out]; exact Tryz.info73) (by rw [HG1.out]; exact HZS.out) HG2.out ?_; have HB : Hid _ := HN.out; clear c0 c1 c2 c3 c4 c5 c6 c7 c8; generalize World.setRow _ (w.heap.size + 2) CS0 = x1 at *; obtain ⟨c0, c1, c2, c3, c4, c5, c6, c7, c8⟩ := rsx_box HB.out.r; clear _h tok1 HN)
    | (refine putG_int rfl _ _ rfl HB.out _ _ rfl rfl (by decide) ?_; intro x' hx'; clear c0 c1 c2 c3 c4 c5 c6 c7 c8; clear HB; have HB : Hid (BG w 38 ZB (rsc k i d b p) _ x') := hx'; clear hx'; obtain ⟨c0, c1, c2, c3, c4, c5, c6, c7, c8⟩ := rsx_box HB.out.r)
    | (refine wpList_load_row rfl 73 _ rfl (w.heap.size + 2) rfl 73 CSF (0, 0) _ (by have q := HB.out.b; rw [HQ.out] at q; exact q) Tryz.underlying73 rfl (by rw [HF1.out]; exact Tryz.info73) ?_; clear c0 c1 c2 c3 c4 c5 c6 c7 c8)
    | (refine wpList_store_row rfl 73 _ _ rfl (w.heap.size + 1) CSF rfl rfl 73 ZB (by exact HB.out.o) (by rw [HF1.out]; exact Tryz.info73) (by rw [HF1.out]; exact HZS.out) HF2.out ?_))
  refine bodyPost_ret (results_cell_row rfl _ _ (w.heap.size + 1) 73 CSF (0, 0) _ rfl (setRow_heap _ _ _ _ _ _ HB.out.o) Tryz.underlying73 rfl (by rw [HF1.out]; exact Tryz.info73)) rfl ?_
  exact ⟨rfl, below_setRow HB.out.bel (by omega) _⟩
theorem pfieldS_any (w0 x : World) (P : Nat) (st : Ls) (N f : Nat) (k i : Int) (b : Bd) (p : Pt) (hv : VB b) (hz : ∀ f, f ≤ 14 → f ≠ 12 → b f = fz) (ht : Tab w0) (hr : SRows w0 b p) (l1 : (b 17).nm.length ≤ 300) (l2 : (b 18).ct.length ≤ 300) (l3 : (b 19).bs.length ≤ 300) (ln : ∀ s, s ∈ (b 17).nm → s.size ≤ 30000) (hf : f = 12 ∨ f = 15 ∨ f = 16 ∨ f = 17 ∨ f = 18 ∨ f = 19) (hN : N ≤ 1000000000) (h : PnS w0 P x st N) :
    Calls Tryz.prog 36 #[(.pointer (some ⟨P, 0, none⟩)), .agg #[.int .i64 (wh f), .int .i64 (f : Int)], .agg (gba k i b p)] x (PP w0 P x (oa st (eK (kd f) (b f))) (N + 10400000)) := by
  have up : ∀ {s : Ls} {M : Nat} {e : Ending} {w' : World}, M ≤ N + 10400000 → PP w0 P x s M e w' → PP w0 P x s (N + 10400000) e w' := fun hM q => ⟨q.1, q.2.1.mono hM, q.2.2⟩
  have num : ∀ g : Nat, g < 20 → Calls Tryz.prog 36 #[(.pointer (some ⟨P, 0, none⟩)), .agg #[.int .i64 2, .int .i64 (g : Int)], .agg (gba k i b p)] x (PP w0 P x (oa st (some (eInt (b g).n))) (N + 10400000)) := fun g hg =>
    Calls.mono (pf_num w0 x P st N g k i (fun _ => ⟨#[]⟩) (fun f => (b f).n) false (.slice none 0 0) (.slice p.ba p.bs.length p.bc) (.slice p.na (b 17).nm.length p.nc) (.slice p.ca (b 18).ct.length p.cc) hg (by omega) h) (fun e w' q => up (by omega) q)
  rcases hf with rfl | rfl | rfl | rfl | rfl | rfl
  · exact num 12 (by decide)
  · exact num 15 (by decide)
  · exact num 16 (by decide)
  · exact Calls.mono (pf_names w0 x P st N 17 k i (fun _ => ⟨#[]⟩) (fun f => (b f).n) false (.slice none 0 0) (.slice p.ba p.bs.length p.bc) (.slice p.ca (b 18).ct.length p.cc) p.na p.nc (b 17).nm (by omega) l1 hr.nm ln h) (fun e w' q => up (by omega) q)
  · exact Calls.mono (pf_counts w0 x P st N 18 k i (fun _ => ⟨#[]⟩) (fun f => (b f).n) false (.slice none 0 0) (.slice p.ba p.bs.length p.bc) (.slice p.na (b 17).nm.length p.nc) p.ca p.cc (b 18).ct (by omega) l2 hr.ct h) (fun e w' q => up (by omega) q)
  · have e : p.bs.length = (b 19).bs.length := by rw [← hr.bb, List.length_map]
    have q := pf_bats w0 x P st N 19 k i (fun _ => ⟨#[]⟩) (fun f => (b f).n) false (.slice none 0 0) (.slice p.na (b 17).nm.length p.nc) (.slice p.ca (b 18).ct.length p.cc) p.ba p.bc p.bs (by omega) (by omega) ht hr.bs h
    rw [hr.bb] at q
    exact Calls.mono q (fun e w' q => up (by omega) q)
set_option maxRecDepth 100000 in
theorem rs_no0 (k i d : Int) (b : Bd) (p : Pt) (w : World) (h1 : k < 0) : Calls Tryz.prog 14 #[.agg (rsc k i d b p)] w fun e w' => e = .returned (.tuple #[.slice none 0 0, .int .i64 1]) ∧ Below w.heap.size w w' := by
  have HX0 : Hid ((w.alloc (.cells (rsc k i d b p) 38)).heap[w.heap.size]? = some (.cells (rsc k i d b p) 38 (0, 0))) := heap_alloc_new w _
  obtain ⟨c0, c1, c2, _⟩ := rsx_box HX0.out
  clear HX0
  generalize (rsc k i d b p) = cs at *
  go_enter Tryz.func14, Tryz.ntmps14
  go_wp2
  go_ret2
  exact ⟨rfl, below_box _⟩
set_option maxRecDepth 100000 in
theorem rs_no1 (k i d : Int) (b : Bd) (p : Pt) (w : World) (h1 : ¬ k < 0) (h2 : k > 8) : Calls Tryz.prog 14 #[.agg (rsc k i d b p)] w fun e w' => e = .returned (.tuple #[.slice none 0 0, .int .i64 1]) ∧ Below w.heap.size w w' := by
  have HX0 : Hid ((w.alloc (.cells (rsc k i d b p) 38)).heap[w.heap.size]? = some (.cells (rsc k i d b p) 38 (0, 0))) := heap_alloc_new w _
  obtain ⟨c0, c1, c2, _⟩ := rsx_box HX0.out
  clear HX0
  generalize (rsc k i d b p) = cs at *
  go_enter Tryz.func14, Tryz.ntmps14
  go_wp2
  go_ret2
  exact ⟨rfl, below_box _⟩
set_option maxRecDepth 100000 in
theorem rs_no2 (k i d : Int) (b : Bd) (p : Pt) (w : World) (h1 : ¬ k < 0) (h2 : ¬ k > 8) (h3 : i < 0) : Calls Tryz.prog 14 #[.agg (rsc k i d b p)] w fun e w' => e = .returned (.tuple #[.slice none 0 0, .int .i64 1]) ∧ Below w.heap.size w w' := by
  have HX0 : Hid ((w.alloc (.cells (rsc k i d b p) 38)).heap[w.heap.size]? = some (.cells (rsc k i d b p) 38 (0, 0))) := heap_alloc_new w _
  obtain ⟨c0, c1, c2, _⟩ := rsx_box HX0.out
  clear HX0
  generalize (rsc k i d b p) = cs at *
  go_enter Tryz.func14, Tryz.ntmps14
  go_wp2
  go_ret2
  exact ⟨rfl, below_box _⟩
set_option maxRecDepth 100000 in
theorem rs_no3 (k i d : Int) (b : Bd) (p : Pt) (w : World) (h1 : ¬ k < 0) (h2 : ¬ k > 8) (h3 : ¬ i < 0) (h4 : i > 4294967295) : Calls Tryz.prog 14 #[.agg (rsc k i d b p)] w fun e w' => e = .returned (.tuple #[.slice none 0 0, .int .i64 1]) ∧ Below w.heap.size w w' := by
  have HX0 : Hid ((w.alloc (.cells (rsc k i d b p) 38)).heap[w.heap.size]? = some (.cells (rsc k i d b p) 38 (0, 0))) := heap_alloc_new w _
  obtain ⟨c0, c1, c2, _⟩ := rsx_box HX0.out
  clear HX0
  generalize (rsc k i d b p) = cs at *
  go_enter Tryz.func14, Tryz.ntmps14
  go_wp2
  go_ret2
  exact ⟨rfl, below_box _⟩
set_option maxRecDepth 100000 in
theorem rs_no4 (k i d : Int) (b : Bd) (p : Pt) (w : World) (h1 : ¬ k < 0) (h2 : ¬ k > 8) (h3 : ¬ i < 0) (h4 : ¬ i > 4294967295) (h5 : d < 0) : Calls Tryz.prog 14 #[.agg (rsc k i d b p)] w fun e w' => e = .returned (.tuple #[.slice none 0 0, .int .i64 1]) ∧ Below w.heap.size w w' := by
  have HX0 : Hid ((w.alloc (.cells (rsc k i d b p) 38)).heap[w.heap.size]? = some (.cells (rsc k i d b p) 38 (0, 0))) := heap_alloc_new w _
  obtain ⟨c0, c1, c2, _⟩ := rsx_box HX0.out
  clear HX0
  generalize (rsc k i d b p) = cs at *
  go_enter Tryz.func14, Tryz.ntmps14
  go_wp2
  go_ret2
  exact ⟨rfl, below_box _⟩
set_option maxRecDepth 100000 in
theorem rs_no5 (k i d : Int) (b : Bd) (p : Pt) (w : World) (h1 : ¬ k < 0) (h2 : ¬ k > 8) (h3 : ¬ i < 0) (h4 : ¬ i > 4294967295) (h5 : ¬ d < 0) (h6 : d > 255) : Calls Tryz.prog 14 #[.agg (rsc k i d b p)] w fun e w' => e = .returned (.tuple #[.slice none 0 0, .int .i64 1]) ∧ Below w.heap.size w w' := by
  have HX0 : Hid ((w.alloc (.cells (rsc k i d b p) 38)).heap[w.heap.size]? = some (.cells (rsc k i d b p) 38 (0, 0))) := heap_alloc_new w _
  obtain ⟨c0, c1, c2, _⟩ := rsx_box HX0.out
  clear HX0
  generalize (rsc k i d b p) = cs at *
  go_enter Tryz.func14, Tryz.ntmps14
  go_wp2
  go_ret2
  exact ⟨rfl, below_box _⟩
set_option maxRecDepth 100000 in
theorem rs_no6 (k i d : Int) (b : Bd) (p : Pt) (w : World) (h3 : ¬ i < 0) (h4 : ¬ i > 4294967295) (h7 : d = 0) (h8 : k = 0) : Calls Tryz.prog 14 #[.agg (rsc k i d b p)] w fun e w' => e = .returned (.tuple #[.slice none 0 0, .int .i64 1]) ∧ Below w.heap.size w w' := by
  subst h7 h8
  have HX0 : Hid ((w.alloc (.cells (rsc 0 i 0 b p) 38)).heap[w.heap.size]? = some (.cells (rsc 0 i 0 b p) 38 (0, 0))) := heap_alloc_new w _
  obtain ⟨c0, c1, c2, _⟩ := rsx_box HX0.out
  clear HX0
  generalize (rsc 0 i 0 b p) = cs at *
  go_enter Tryz.func14, Tryz.ntmps14
  go_wp2
  go_ret2
  exact ⟨rfl, below_box _⟩
theorem run_alloc38 (x : World) : (Instr.alloc 38 true (.tuple #[])).run Tryz.prog x = .ok (.pointer (some ⟨x.heap.size, 0, none⟩)) (x.alloc (.cells z40 38)) := by
  go_simp
  rfl
theorem run_build38 (k i d : Int) (b : Bd) (p : Pt) (x : World) : (Instr.build 38 #[(0, .int .i64 k), (1, .int .i64 i), (2, .int .i64 d)]).run Tryz.prog x = .ok (.agg (rsm k i d b p [])) x := by
  rw [rsm_nil]
  refine run_build (P := Tryz.prog) x 38 _ _ ?_
  kernel_rfl
theorem rsm_one (k i d : Int) (b : Bd) (p : Pt) (r : List Nat) : (rsm k i d b p r).size = 9 ∧ (rsm k i d b p r).all (·.oneCell') = true := by
  constructor
  · rfl
  · simp [rsm, rsc, Value.oneCell']
theorem wp_append_rwK {w : World} {o : Oper} {a : Act} {K : Act → World → Prop} {Q : Exit → Act → World → Prop} (s x : Operand)
    (ho : o.op = .call { callee := .builtin .append, args := #[s, x], argTypes := #[22, 22] }) (B : Nat)
    (v : Value) (l : List Nat) (hs : a.eval s = v) (hown : w.ownsRow B 5 1 v l.length (cv l)) (hBs : B ≤ w.heap.size)
    (ad : Addr) (cap : Nat) (m : List Nat) (hx : a.eval x = .slice (some ad) m.length cap) (hr : Row w (some ad) m) (h63 : l.length + m.length ≤ 1000000000000)
    (h : ∀ v' w', w'.ownsRow B 5 1 v' (l ++ m).length (cv (l ++ m)) → w.grownBy w' v.ownBlock → K (a.put o.dst v') w') : o.wp Tryz.prog a w K Q := by
  obtain ⟨i0, hi, hz0, hz1, hz2⟩ := info_parts Tryz.info5
  refine wp_append_own w s x 22 ho B 5 i0 (.int .u8 0) 1 1 Tryz.underlying22 hi hz0 hz1 hz2 rfl (by decide) v l.length (cv l) hs hown ad m.length cap (cv m) hx (by rw [cv_length]; omega) (row_news hr) (cv_one _) (by unfold maxLen; omega) (by omega) hBs ?_
  intro v' w' h2 h3 _
  exact h v' w' (by rw [List.length_append, cv_append]; exact h2) h3
theorem rowA_in {k : Int} : ∀ f, f ∈ rowOr (rowA k) → f = 12 ∨ f = 15 ∨ f = 16 ∨ f = 17 ∨ f = 18 ∨ f = 19 := by
  unfold rowA
  repeat' split
  all_goals simp [rowOr]
theorem rowA_len {k : Int} : (rowOr (rowA k)).length ≤ 3 := by
  unfold rowA
  repeat' split
  all_goals simp [rowOr]
end Go.Proofs.YtaooidckmepdeaaGreatDoor
