/- The document's own body. -/
import Derived.Test.YtgpeldmplkijlaaDoorRb
import Derived.Test.YtgpeldmplkijlaaDoorBx
import Derived.Deep.RegionHeld3
namespace Go.Proofs.YtgpeldmplkijlaaDoor
set_option linter.unusedSimpArgs false
set_option linter.unusedVariables false
open Go.RowKit
set_option maxHeartbeats 2000000 in
set_option maxRecDepth 100000 in
theorem rbody_any (b : Ba) (a : Option Addr) (cap : Nat) (w : World) (hr : RRow w a b.rs) (hi : In64B b) (hw : wrE b = 0) :
    Calls Tryd.prog 33 #[bav b a cap] w fun e w' => ∃ v, e = .returned v ∧ w'.ownsRow w.heap.size 5 1 v (tailL b).length (cv (tailL b)) ∧ Below w.heap.size w w' := by
  obtain ⟨⟨b0, b1⟩, ⟨s0, s1⟩, q0, q1, r0, hri, hc⟩ := wr_ok hw
  obtain ⟨f0, f1⟩ := (time_iff _).1 (wr_time hw)
  have hft := wr_time hw
  have hlen := (wr_len hw).1
  obtain ⟨i0, i1⟩ := hi
  obtain ⟨bn, ebn⟩ := Int.eq_ofNat_of_zero_le b0
  obtain ⟨sn, esn⟩ := Int.eq_ofNat_of_zero_le (show 0 ≤ b.span by omega)
  obtain ⟨pn, epn⟩ := Int.eq_ofNat_of_zero_le q0
  obtain ⟨qn, eqn⟩ := Int.eq_ofNat_of_zero_le q1
  obtain ⟨fn, efn⟩ := Int.eq_ofNat_of_zero_le f0
  have HF0 : Hid (frs b = (fn : Int)) := efn
  have htl : tailL b = midL pn qn sn b.rs.length fn ++ bodyL b.rs (frs b) := by
    unfold tailL
    rw [epn, eqn, esn]
    have : (frs b).toNat = fn := by omega
    rw [this]
    rfl
  obtain ⟨F, HF⟩ : ∃ F : Nat → List Nat, Hid (∀ k, midL pn qn sn b.rs.length fn ++ bodyL (b.rs.take k) (frs b) = F k) := ⟨_, fun _ => rfl⟩
  have HS : Hid (∀ k, k < b.rs.length → F (k + 1) = F k ++ encL (b.rs.getD k rz) (fn : Int)) := fun k hk => by rw [← HF.out, ← HF.out, body_take b.rs (frs b) k hk, List.append_assoc, HF0.out]
  have HFz : Hid (F 0 = ((((([] ++ lay 8 pn) ++ lay 8 qn) ++ lay 4 sn) ++ lay 4 b.rs.length) ++ lay 8 fn)) := by
    show _ = _
    rw [← HF.out]
    simp [midL, bodyL]
  have HA : Hid (F b.rs.length = tailL b) := by show _ = _; rw [← HF.out, List.take_length, htl]
  have HFl : Hid (∀ k, (F k).length ≤ 600000) := fun k => by
    rw [← HF.out, List.length_append, mid_len]
    have := body_len (frs b) (fun r hr => hc r (List.mem_of_mem_take (i := k) hr))
    rw [List.length_take] at this
    omega
  have HEn : Hid (∀ k, k < b.rs.length → Enc 50 (b.rs.getD k rz) (fn : Int)) := fun k hk => by rw [← HF0.out]; exact renc_of (hc _ (getD_mem hk)) hft
  have HEL : Hid (∀ k, k < b.rs.length → (encL (b.rs.getD k rz) (fn : Int)).length ≤ 5000) := fun k hk => by
    obtain ⟨_, _, _, _, k1, v1, _⟩ := chk_ok (hc _ (getD_mem hk))
    exact encL_len _ _ k1 v1
  have HR4 : Hid (∀ w, RRow w a b.rs → ∃ x off, a = some ⟨x, off, none⟩ ∧ w.cell? ⟨x, off + 4, none⟩ = some (.int .i64 (fn : Int))) := by
    intro w hr
    obtain ⟨x, off, e, _, _, _, _, z4, _⟩ := hr 0 r0
    rw [Nat.zero_mul, Nat.add_zero, show (b.rs.getD 0 rz).t = (fn : Int) from HF0.out] at z4
    exact ⟨x, off, e, z4⟩
  rw [← HA.out]
  clear HA htl hri hc hft hw HF
  obtain ⟨base, span, prod, seq, rs⟩ := b
  simp only at *
  subst ebn esn epn eqn
  simp only [bav]
  have hwp : IntKind.u64.wrap (pn : Int) = (pn : Int) := by rw [IntKind.wrap_u64]; omega
  have hwq : IntKind.u64.wrap (qn : Int) = (qn : Int) := by rw [IntKind.wrap_u64]; omega
  have hws : IntKind.u64.wrap (sn : Int) = (sn : Int) := by rw [IntKind.wrap_u64]; omega
  have hwf : IntKind.u64.wrap (fn : Int) = (fn : Int) := by rw [IntKind.wrap_u64]; omega
  have hwc : IntKind.u64.wrap (rs.length : Int) = (rs.length : Int) := by rw [IntKind.wrap_u64]; omega
  have hrI : (0 : Int) < (rs.length : Int) := by omega
  have HR0 : Hid (RRow w a rs) := hr
  have tok1 : True := trivial
  obtain ⟨rb, roff, era, _⟩ := HR4.out w hr
  have hrb : rb < w.heap.size := by
    obtain ⟨x, off, e, z0, _⟩ := hr 0 r0
    rw [era] at e
    simp only [Option.some.injEq, Addr.mk.injEq, and_true] at e
    obtain ⟨rfl, rfl⟩ := e
    have := World.block_lt_of_cell? _ _ z0
    simpa using this
  subst era
  have HY4 : Hid (∀ x, Below w.heap.size w x → x.cell? ⟨rb, roff + 4, none⟩ = some (.int .i64 (fn : Int))) := by
    intro x hb
    obtain ⟨y, off, e, h⟩ := HR4.out x (RRow.below HR0.out hb)
    simp only [Option.some.injEq, Addr.mk.injEq, and_true] at e
    obtain ⟨rfl, rfl⟩ := e
    exact h
  have hfb : (fn : Int) ≤ 1125899906842624 := by rw [← HF0.out]; exact f1
  clear hr HR4 b0 q0 q1 f0 f1 HF0 efn
  obtain ⟨u, HU⟩ : ∃ u, Hid (w.alloc (.cells #[.int .i64 (bn : Int), .int .i64 (sn : Int), .int .i64 (pn : Int), .int .i64 (qn : Int), .slice (some ⟨rb, roff, none⟩) rs.length cap] 24) = u) := ⟨_, rfl⟩
  have HUB : Hid (BxS w (bcells ⟨(bn : Int), (sn : Int), (pn : Int), (qn : Int), rs⟩ (some ⟨rb, roff, none⟩) cap) u) := by have := BxS.new w (bcells ⟨(bn : Int), (sn : Int), (pn : Int), (qn : Int), rs⟩ (some ⟨rb, roff, none⟩) cap); rw [show w.alloc (.cells (bcells ⟨(bn : Int), (sn : Int), (pn : Int), (qn : Int), rs⟩ (some ⟨rb, roff, none⟩) cap) 24) = u from HU.out] at this; exact this
  have HL1 : Hid (([] ++ lay 8 pn).length ≤ 1000) := by show _ ≤ _; simp [lay_len]
  have HL2 : Hid ((([] ++ lay 8 pn) ++ lay 8 qn).length ≤ 1000) := by show _ ≤ _; simp [lay_len]
  have HL3 : Hid (((([] ++ lay 8 pn) ++ lay 8 qn) ++ lay 4 sn).length ≤ 1000) := by show _ ≤ _; simp [lay_len]
  have HL4 : Hid ((((([] ++ lay 8 pn) ++ lay 8 qn) ++ lay 4 sn) ++ lay 4 rs.length).length ≤ 1000) := by show _ ≤ _; simp [lay_len]
  have HX1 : Hid _ := fun v x l hl h1 h2 => lay_any v l 8 pn x u u.heap.size h1 h2 (Nat.le_refl _) hl (by omega) (by omega)
  have HX2 : Hid _ := fun v x l hl h1 h2 => lay_any v l 8 qn x u u.heap.size h1 h2 (Nat.le_refl _) hl (by omega) (by omega)
  have HX3 : Hid _ := fun v x l hl h1 h2 => lay_any v l 4 sn x u u.heap.size h1 h2 (Nat.le_refl _) hl (by omega) (by omega)
  have HX4 : Hid _ := fun v x l hl h1 h2 => lay_any v l 4 rs.length x u u.heap.size h1 h2 (Nat.le_refl _) hl (by omega) (by omega)
  have HX5 : Hid _ := fun v x l hl h1 h2 => lay_any v l 8 fn x u u.heap.size h1 h2 (Nat.le_refl _) hl (by omega) (by omega)
  generalize lay 8 pn = l1 at *
  generalize lay 8 qn = l2 at *
  generalize lay 4 sn = l3 at *
  generalize lay 4 rs.length = l4 at *
  generalize lay 8 fn = l5 at *
  go_enter Tryd.func33, Tryd.ntmps33
  go_wp2_with (first
    | (go_at_call 34; have _t := tok1; rw [HU.out]; refine (HX1.out _ _ [] (by simp) (World.ownsRow_nil _ _ _ _) (Below.refl _ _)).mono ?_; clear tok1 _t; rintro e x1 ⟨v1, rfl, hown1, hb1⟩; have HB1 : Hid (BxS w (bcells ⟨(bn : Int), (sn : Int), (pn : Int), (qn : Int), rs⟩ (some ⟨rb, roff, none⟩) cap) x1) := BxS.below HUB.out hb1; have hy1 := HY4.out _ HB1.out.bel; obtain ⟨c0, c1, c2, c3, c4, cz⟩ := BxS.cells HB1.out; simp only at c0 c1 c2 c3 c4)
    | (go_at_call 34; have _t := hown1; refine (HX2.out _ _ ([] ++ l1) HL1.out hown1 hb1).mono ?_; clear _t hown1 hb1 hy1 c0 c1 c2 c3 c4 cz; rintro e x2 ⟨v2, rfl, hown2, hb2⟩; have HB2 : Hid (BxS w (bcells ⟨(bn : Int), (sn : Int), (pn : Int), (qn : Int), rs⟩ (some ⟨rb, roff, none⟩) cap) x2) := BxS.below HUB.out hb2; have hy2 := HY4.out _ HB2.out.bel; obtain ⟨c0, c1, c2, c3, c4, cz⟩ := BxS.cells HB2.out; simp only at c0 c1 c2 c3 c4)
    | (go_at_call 34; have _t := hown2; refine (HX3.out _ _ (([] ++ l1) ++ l2) HL2.out hown2 hb2).mono ?_; clear _t hown2 hb2 hy2 c0 c1 c2 c3 c4 cz; rintro e x3 ⟨v3, rfl, hown3, hb3⟩; have HB3 : Hid (BxS w (bcells ⟨(bn : Int), (sn : Int), (pn : Int), (qn : Int), rs⟩ (some ⟨rb, roff, none⟩) cap) x3) := BxS.below HUB.out hb3; have hy3 := HY4.out _ HB3.out.bel; obtain ⟨c0, c1, c2, c3, c4, cz⟩ := BxS.cells HB3.out; simp only at c0 c1 c2 c3 c4)
    | (go_at_call 34; have _t := hown3; refine (HX4.out _ _ ((([] ++ l1) ++ l2) ++ l3) HL3.out hown3 hb3).mono ?_; clear _t hown3 hb3 hy3 c0 c1 c2 c3 c4 cz; rintro e x4 ⟨v4, rfl, hown4, hb4⟩; have HB4 : Hid (BxS w (bcells ⟨(bn : Int), (sn : Int), (pn : Int), (qn : Int), rs⟩ (some ⟨rb, roff, none⟩) cap) x4) := BxS.below HUB.out hb4; have hy4 := HY4.out _ HB4.out.bel; obtain ⟨c0, c1, c2, c3, c4, cz⟩ := BxS.cells HB4.out; simp only at c0 c1 c2 c3 c4)
    | (go_at_call 34; have _t := hown4; refine (HX5.out _ _ (((([] ++ l1) ++ l2) ++ l3) ++ l4) HL4.out hown4 hb4).mono ?_; clear _t hown4 hb4 hy4 c0 c1 c2 c3 c4 cz; rintro e x5 ⟨v5, rfl, hown5, hb5⟩; have HB5 : Hid (BxS w (bcells ⟨(bn : Int), (sn : Int), (pn : Int), (qn : Int), rs⟩ (some ⟨rb, roff, none⟩) cap) x5) := BxS.below HUB.out hb5; have hy5 := HY4.out _ HB5.out.bel; obtain ⟨c0, c1, c2, c3, c4, cz⟩ := BxS.cells HB5.out; simp only at c0 c1 c2 c3 c4))
  clear c0 c1 c2 c3 c4 cz hy5
  go_loopw [3, 4] (fun p i x => ∃ k : Nat, k ≤ rs.length ∧ i = .int .i64 k ∧ x.ownsRow u.heap.size 5 1 p (F k).length (cv (F k)) ∧ Below u.heap.size u x) (fun _ i _ => rs.length - (intOf i).toNat)
  case atStart => exact ⟨0, by omega, rfl, by rw [HFz.out]; exact hown5, hb5⟩
  case round =>
    clear hown5 hb5 HB1 HB2 HB3 HB4 HB5
    obtain ⟨k, hk, rfl, hown, hb⟩ := hrel
    have HB : Hid (BxS w (bcells ⟨(bn : Int), (sn : Int), (pn : Int), (qn : Int), rs⟩ (some ⟨rb, roff, none⟩) cap) wr) := BxS.below HUB.out hb
    have hy := HY4.out _ HB.out.bel
    obtain ⟨c0, c1, c2, c3, c4, cz⟩ := BxS.cells HB.out
    simp only at c0 c1 c2 c3 c4
    by_cases hlt : k < rs.length
    · have hltI : (k : Int) < (rs.length : Int) := by omega
      have HE := HEn.out k hlt
      have HL : Hid (F (k + 1) = F k ++ encL (rs.getD k rz) (fn : Int)) := HS.out k hlt
      have h5 := HFl.out k
      have h6 := HEL.out k hlt
      obtain ⟨b', off', e, z0, z1, z2, z3, z4, z5⟩ := (RRow.below HR0.out HB.out.bel) k hlt
      simp only [Option.some.injEq, Addr.mk.injEq, and_true] at e
      obtain ⟨rfl, rfl⟩ := e
      have hrx : rb < wr.heap.size := by omega
      have hz3 : u.heap.size ≤ wr.heap.size := hb.size
      unfold Enc at HE
      generalize rs.getD k rz = r at *
      generalize encL r (fn : Int) = L at *
      have HEn2 : Hid _ := HE
      clear HE
      obtain ⟨hk', kk, hv, v, t, o⟩ := r
      simp only at z0 z1 z2 z3 z4 z5
      simp only [Rc.cells] at HEn2
      have hS0 : (fun y : World => y.cell? ⟨w.heap.size, 4, none⟩ = some (.slice (some ⟨rb, roff, none⟩) rs.length cap) ∧ y.cell? ⟨rb, roff + 4, none⟩ = some (.int .i64 (fn : Int)) ∧ y.cell? ⟨rb, roff + k * 6, none⟩ = some (.bool hk') ∧ y.cell? ⟨rb, roff + k * 6 + 1, none⟩ = some (.string kk) ∧ y.cell? ⟨rb, roff + k * 6 + 2, none⟩ = some (.bool hv) ∧ y.cell? ⟨rb, roff + k * 6 + 3, none⟩ = some (.string v) ∧ y.cell? ⟨rb, roff + k * 6 + 4, none⟩ = some (.int .i64 t) ∧ y.cell? ⟨rb, roff + k * 6 + 5, none⟩ = some (.int .i64 o)) wr := ⟨c4, hy, z0, z1, z2, z3, z4, z5⟩
      have HKP : Hid (∀ x y, Below x.heap.size x y → (fun y : World => y.cell? ⟨w.heap.size, 4, none⟩ = some (.slice (some ⟨rb, roff, none⟩) rs.length cap) ∧ y.cell? ⟨rb, roff + 4, none⟩ = some (.int .i64 (fn : Int)) ∧ y.cell? ⟨rb, roff + k * 6, none⟩ = some (.bool hk') ∧ y.cell? ⟨rb, roff + k * 6 + 1, none⟩ = some (.string kk) ∧ y.cell? ⟨rb, roff + k * 6 + 2, none⟩ = some (.bool hv) ∧ y.cell? ⟨rb, roff + k * 6 + 3, none⟩ = some (.string v) ∧ y.cell? ⟨rb, roff + k * 6 + 4, none⟩ = some (.int .i64 t) ∧ y.cell? ⟨rb, roff + k * 6 + 5, none⟩ = some (.int .i64 o)) x → (fun y : World => y.cell? ⟨w.heap.size, 4, none⟩ = some (.slice (some ⟨rb, roff, none⟩) rs.length cap) ∧ y.cell? ⟨rb, roff + 4, none⟩ = some (.int .i64 (fn : Int)) ∧ y.cell? ⟨rb, roff + k * 6, none⟩ = some (.bool hk') ∧ y.cell? ⟨rb, roff + k * 6 + 1, none⟩ = some (.string kk) ∧ y.cell? ⟨rb, roff + k * 6 + 2, none⟩ = some (.bool hv) ∧ y.cell? ⟨rb, roff + k * 6 + 3, none⟩ = some (.string v) ∧ y.cell? ⟨rb, roff + k * 6 + 4, none⟩ = some (.int .i64 t) ∧ y.cell? ⟨rb, roff + k * 6 + 5, none⟩ = some (.int .i64 o)) y) := by
        rintro x y hb ⟨g0, g1, g2, g3, g4, g5, g6, g7⟩
        exact ⟨(hb.cell (World.block_lt_of_cell? _ _ g0)).trans g0, (hb.cell (World.block_lt_of_cell? _ _ g1)).trans g1, (hb.cell (World.block_lt_of_cell? _ _ g2)).trans g2, (hb.cell (World.block_lt_of_cell? _ _ g3)).trans g3, (hb.cell (World.block_lt_of_cell? _ _ g4)).trans g4, (hb.cell (World.block_lt_of_cell? _ _ g5)).trans g5, (hb.cell (World.block_lt_of_cell? _ _ g6)).trans g6, (hb.cell (World.block_lt_of_cell? _ _ g7)).trans g7⟩
      go_wp2_with fail
      go_region_held3 (fun y : World => y.cell? ⟨w.heap.size, 4, none⟩ = some (.slice (some ⟨rb, roff, none⟩) rs.length cap) ∧ y.cell? ⟨rb, roff + 4, none⟩ = some (.int .i64 (fn : Int)) ∧ y.cell? ⟨rb, roff + k * 6, none⟩ = some (.bool hk') ∧ y.cell? ⟨rb, roff + k * 6 + 1, none⟩ = some (.string kk) ∧ y.cell? ⟨rb, roff + k * 6 + 2, none⟩ = some (.bool hv) ∧ y.cell? ⟨rb, roff + k * 6 + 3, none⟩ = some (.string v) ∧ y.cell? ⟨rb, roff + k * 6 + 4, none⟩ = some (.int .i64 t) ∧ y.cell? ⟨rb, roff + k * 6 + 5, none⟩ = some (.int .i64 o)) (first | exact hS4 | exact hS0)
        ((go_at_call 50; refine (HEn2.out _).mono ?_; rintro e w4 ⟨a4, c4', rfl, hr4, hn4, hb4⟩; have hS4 := HKP.out _ _ hb4 hS0; have hb5 : Below wr.heap.size wr w4 := (Below.refl _ wr).drew.trans hb4; have hown4 := owns_below hown hb5; have hbel4 := hb.trans (hb5.mono hz3)))
      go_wp2_with (at_builtin; refine wpList_append_row (by rfl) _ _ rfl u.heap.size u _ _ _ rfl hown4 hbel4 hbel4.size a4 c4' L rfl hr4 hn4 (by omega) ?_; intro v5 w5 hown5 hbel5)
      refine ⟨⟨k + 1, by omega, by go_num, by rw [HL.out, List.length_append, cv_append]; exact hown5, hbel5⟩, by simp [intOf]; omega⟩
    · obtain rfl : k = rs.length := by omega
      go_wp2_with fail
      go_ret
      exact ⟨_, rfl, owns_le hown (by have := HUB.out.bel.size; omega), HB.out.bel⟩
end Go.Proofs.YtgpeldmplkijlaaDoor
