/- Rb Rk Rx Ry Fr Aw We Oa Fl Mv Dp Dh Dd Dg Dj Dl in one text (wip/tools/merge4.py). -/
import Derived.Test.YtgpeldmplkijlaaDoorHd
import Derived.Test.YtgpeldmplkijlaaDoorEa
import Derived.Test.YtgpeldmplkijlaaDoorRs
import Derived.Test.YtgpeldmplkijlaaDoorBx
import Derived.Deep.RegionHeld3
import Derived.Test.YtgpeldmplkijlaaDoorBe
import Derived.Test.YtgpeldmplkijlaaDoorFh
import Derived.Test.YtgpeldmplkijlaaDoorOp
import Derived.Deep.Slices
import Derived.ChangeSlices
import Derived.Test.YtgpeldmplkijlaaDoorDc
import Derived.Test.YtgpeldmplkijlaaDoorDq
import Derived.Test.YtgpeldmplkijlaaDoorRg
import Derived.Test.YtgpeldmplkijlaaDoorRa
import Derived.Laws.AppendOwn
namespace Go.Proofs.YtgpeldmplkijlaaDoor
set_option linter.unusedSimpArgs false
set_option linter.unusedVariables false
open Go.RowKit
/-- The first k bytes of a number of n. -/
theorem lay_take (n V k : Nat) (h : k < n) : (lay n V).take (k + 1) = (lay n V).take k ++ [V / 256 ^ (n - 1 - k) % 256] := by
  rw [List.take_succ_eq_append_getElem (by rw [lay_len]; exact h)]
  simp [lay]
set_option maxHeartbeats 800000 in
set_option maxRecDepth 100000 in
theorem lay_any (v : Value) (l : List Nat) (n V : Nat) (w w0 : World) (B : Nat) (hown : w.ownsRow B 5 1 v l.length (cv l)) (hB : Below B w0 w) (hB0 : B ≤ w0.heap.size) (hl : l.length ≤ 1000) (hn : n ≤ 8) (hV : V ≤ 18446744073709551615) :
    Calls Tryd.prog 34 #[v, .int .i64 n, .int .u64 V] w fun e w' => ∃ v', e = .returned v' ∧ w'.ownsRow B 5 1 v' (l ++ lay n V).length (cv (l ++ lay n V)) ∧ Below B w0 w' := by
  obtain ⟨i0, hi, hz0, hz1, hz2⟩ := info_parts Tryd.info5
  obtain ⟨F, HF⟩ : ∃ F : Nat → List Nat, Hid (∀ k, l ++ (lay n V).take k = F k) := ⟨_, fun _ => rfl⟩
  have HS : Hid (∀ k, k < n → F (k + 1) = F k ++ [V / 256 ^ (n - 1 - k) % 256]) := fun k hk => by rw [← HF.out, ← HF.out, lay_take n V k hk, List.append_assoc]
  have HF0 : Hid (F 0 = l) := by show _ = _; rw [← HF.out]; simp
  have HFn : Hid (F n = l ++ lay n V) := by show _ = _; rw [← HF.out, List.take_of_length_le (by rw [lay_len]; omega)]
  have HFl : Hid (∀ k, k ≤ n → (F k).length ≤ 1100) := fun k hk => by rw [← HF.out, List.length_append, List.length_take]; omega
  rw [← HFn.out]
  go_enter Tryd.func34, Tryd.ntmps34
  go_wp2_with fail
  go_loopw [0, 7] (fun p i wr => ∃ k : Nat, k ≤ n ∧ i = .int .i64 ((n : Int) - 1 - k) ∧ wr.ownsRow B 5 1 p (F k).length (cv (F k)) ∧ Below B w0 wr) (fun _ i _ => (intOf i + 1).toNat)
  case atStart => exact ⟨0, by omega, by go_num, by rw [HF0.out]; exact hown, hB⟩
  case round =>
    clear hown hB
    obtain ⟨k, hk, rfl, hown, hB⟩ := hrel
    have hBs : B ≤ wr.heap.size := Nat.le_trans hB0 hB.size
    by_cases hlt : k < n
    · have HL : Hid (F (k + 1) = F k ++ [V / 256 ^ (n - 1 - k) % 256]) := HS.out k hlt
      have hfl := HFl.out k hk
      obtain ⟨j, HJ⟩ : ∃ j, Hid (n - 1 - k = j) := ⟨_, rfl⟩
      have hj : (n : Int) - 1 - k = (j : Int) := by have := HJ.out; omega
      have hj8 : j < 8 := by have := HJ.out; omega
      have hjn : j < n := by have := HJ.out; omega
      rw [HJ.out] at HL
      rw [hj]
      have x1 : IntKind.i64.wrap (8 * (j : Int)) = 8 * (j : Int) := by rw [IntKind.wrap_i64]; omega
      have x3 : (0 : Int) ≤ 8 * (j : Int) := by omega
      have x4 : 8 * (j : Int) ≤ 64 := by omega
      have x5 : (8 * (j : Int)).toNat = 8 * j := by omega
      have hby := byte_at V j
      have x8 : IntKind.u8.wrap ((V : Int) / 2 ^ (8 * j)) = ((V / 256 ^ j % 256 : Nat) : Int) := by rw [IntKind.wrap_u8, hby]
      have HJI : Hid ((n : Int) - 1 - ((k + 1 : Nat) : Int) = (j : Int) - 1) := by have := HJ.out; show _ = _; omega
      clear hby hj
      generalize V / 256 ^ j % 256 = d at *
      go_wp2_with (at_builtin; refine wpList_append_own _ rfl _ _ 27 rfl B 5 i0 (.int .u8 0) 1 1 Tryd.underlying27 hi hz0 hz1 hz2 rfl (by decide) _ _ _ rfl (hown.alloc _) ⟨wr.heap.size, 0, none⟩ 1 1 (cv [d]) rfl rfl (one_cell rfl) (cv_one _) (by unfold maxLen; omega) (by omega) (by simp; omega) ?_; intro v2 w2 hown2 hg2 hq; obtain ⟨hR, hB2⟩ := own_step hown hB hBs hown2 hg2; have hBs2 := hB2.size; clear hown2 hg2 hq)
      exact ⟨⟨k + 1, by omega, by rw [HJI.out], by rw [HL.out]; exact hR, hB2⟩, by simp [intOf]⟩
    · obtain rfl : k = n := by omega
      have hlt2 : ¬ (0 : Int) ≤ (k : Int) - 1 - k := by omega
      go_wp2_with fail
      go_ret
      exact ⟨_, rfl, hown, hB⟩
theorem renc_of {r : Rc} {first : Int} (hc : chk r = 0) (hf : timeB first = true) : Enc 50 r first := fun w => by
  have hE : encE r first = 0 := by simp [encE, hc, hf]
  have hR : encR r first = encL r first := by simp [encR, hE]
  refine (rencode_any r first w).mono ?_
  rintro e w' ⟨v, rfl, hown, hb⟩
  rw [hR] at hown
  obtain ⟨a, c, rfl, hr, hn⟩ := owns_sl hown (encL_lt r first hc hf)
  exact ⟨a, c, by rw [hE], hr, hn, hb⟩
end Go.Proofs.YtgpeldmplkijlaaDoor
namespace Go.Proofs.YtgpeldmplkijlaaDoor
set_option linter.unusedSimpArgs false
set_option linter.unusedVariables false
open Go.RowKit
set_option maxHeartbeats 2000000 in
set_option maxRecDepth 100000 in
theorem rbody_any (b : Ba) (a : Option Addr) (cap : Nat) (w : World) (hr : RRow w a b.rs) (hi : In64B b) (hw : wrE b = 0) :
    Calls Tryd.prog 33 #[bav b a cap] w fun e w' => ∃ v, e = .returned v ∧ w'.ownsRow w.heap.size 5 1 v (tailL b).length (cv (tailL b)) ∧ Below w.heap.size w w' := by
  obtain ⟨⟨b0, b1⟩, ⟨s0, s1⟩, q0, q1, r0, hri, hc⟩ := wr_ok hw
  obtain ⟨f0, f1⟩ := (time_iff _).1 (wr_time hw)
  have hft := wr_time hw
  have hlen := (wr_len hw).1
  obtain ⟨i0, i1⟩ := hi
  obtain ⟨bn, ebn⟩ := Int.eq_ofNat_of_zero_le b0
  obtain ⟨sn, esn⟩ := Int.eq_ofNat_of_zero_le (show 0 ≤ b.span by omega)
  obtain ⟨pn, epn⟩ := Int.eq_ofNat_of_zero_le q0
  obtain ⟨qn, eqn⟩ := Int.eq_ofNat_of_zero_le q1
  obtain ⟨fn, efn⟩ := Int.eq_ofNat_of_zero_le f0
  have HF0 : Hid (frs b = (fn : Int)) := efn
  have htl : tailL b = midL pn qn sn b.rs.length fn ++ bodyL b.rs (frs b) := by
    unfold tailL
    rw [epn, eqn, esn]
    have : (frs b).toNat = fn := by omega
    rw [this]
    rfl
  obtain ⟨F, HF⟩ : ∃ F : Nat → List Nat, Hid (∀ k, midL pn qn sn b.rs.length fn ++ bodyL (b.rs.take k) (frs b) = F k) := ⟨_, fun _ => rfl⟩
  have HS : Hid (∀ k, k < b.rs.length → F (k + 1) = F k ++ encL (b.rs.getD k rz) (fn : Int)) := fun k hk => by rw [← HF.out, ← HF.out, body_take b.rs (frs b) k hk, List.append_assoc, HF0.out]
  have HFz : Hid (F 0 = ((((([] ++ lay 8 pn) ++ lay 8 qn) ++ lay 4 sn) ++ lay 4 b.rs.length) ++ lay 8 fn)) := by
    show _ = _
    rw [← HF.out]
    simp [midL, bodyL]
  have HA : Hid (F b.rs.length = tailL b) := by show _ = _; rw [← HF.out, List.take_length, htl]
  have HFl : Hid (∀ k, (F k).length ≤ 600000) := fun k => by
    rw [← HF.out, List.length_append, mid_len]
    have := body_len (frs b) (fun r hr => hc r (List.mem_of_mem_take (i := k) hr))
    rw [List.length_take] at this
    omega
  have HEn : Hid (∀ k, k < b.rs.length → Enc 50 (b.rs.getD k rz) (fn : Int)) := fun k hk => by rw [← HF0.out]; exact renc_of (hc _ (getD_mem hk)) hft
  have HEL : Hid (∀ k, k < b.rs.length → (encL (b.rs.getD k rz) (fn : Int)).length ≤ 5000) := fun k hk => by
    obtain ⟨_, _, _, _, k1, v1, _⟩ := chk_ok (hc _ (getD_mem hk))
    exact encL_len _ _ k1 v1
  have HR4 : Hid (∀ w, RRow w a b.rs → ∃ x off, a = some ⟨x, off, none⟩ ∧ w.cell? ⟨x, off + 4, none⟩ = some (.int .i64 (fn : Int))) := by
    intro w hr
    obtain ⟨x, off, e, _, _, _, _, z4, _⟩ := hr 0 r0
    rw [Nat.zero_mul, Nat.add_zero, show (b.rs.getD 0 rz).t = (fn : Int) from HF0.out] at z4
    exact ⟨x, off, e, z4⟩
  rw [← HA.out]
  clear HA htl hri hc hft hw HF
  obtain ⟨base, span, prod, seq, rs⟩ := b
  simp only at *
  subst ebn esn epn eqn
  simp only [bav]
  have hwp : IntKind.u64.wrap (pn : Int) = (pn : Int) := by rw [IntKind.wrap_u64]; omega
  have hwq : IntKind.u64.wrap (qn : Int) = (qn : Int) := by rw [IntKind.wrap_u64]; omega
  have hws : IntKind.u64.wrap (sn : Int) = (sn : Int) := by rw [IntKind.wrap_u64]; omega
  have hwf : IntKind.u64.wrap (fn : Int) = (fn : Int) := by rw [IntKind.wrap_u64]; omega
  have hwc : IntKind.u64.wrap (rs.length : Int) = (rs.length : Int) := by rw [IntKind.wrap_u64]; omega
  have hrI : (0 : Int) < (rs.length : Int) := by omega
  have HR0 : Hid (RRow w a rs) := hr
  have tok1 : True := trivial
  obtain ⟨rb, roff, era, _⟩ := HR4.out w hr
  have hrb : rb < w.heap.size := by
    obtain ⟨x, off, e, z0, _⟩ := hr 0 r0
    rw [era] at e
    simp only [Option.some.injEq, Addr.mk.injEq, and_true] at e
    obtain ⟨rfl, rfl⟩ := e
    have := World.block_lt_of_cell? _ _ z0
    simpa using this
  subst era
  have HY4 : Hid (∀ x, Below w.heap.size w x → x.cell? ⟨rb, roff + 4, none⟩ = some (.int .i64 (fn : Int))) := by
    intro x hb
    obtain ⟨y, off, e, h⟩ := HR4.out x (RRow.below HR0.out hb)
    simp only [Option.some.injEq, Addr.mk.injEq, and_true] at e
    obtain ⟨rfl, rfl⟩ := e
    exact h
  have hfb : (fn : Int) ≤ 1125899906842624 := by rw [← HF0.out]; exact f1
  clear hr HR4 b0 q0 q1 f0 f1 HF0 efn
  obtain ⟨u, HU⟩ : ∃ u, Hid (w.alloc (.cells #[.int .i64 (bn : Int), .int .i64 (sn : Int), .int .i64 (pn : Int), .int .i64 (qn : Int), .slice (some ⟨rb, roff, none⟩) rs.length cap] 24) = u) := ⟨_, rfl⟩
  have HUB : Hid (BxS w (bcells ⟨(bn : Int), (sn : Int), (pn : Int), (qn : Int), rs⟩ (some ⟨rb, roff, none⟩) cap) u) := by have := BxS.new w (bcells ⟨(bn : Int), (sn : Int), (pn : Int), (qn : Int), rs⟩ (some ⟨rb, roff, none⟩) cap); rw [show w.alloc (.cells (bcells ⟨(bn : Int), (sn : Int), (pn : Int), (qn : Int), rs⟩ (some ⟨rb, roff, none⟩) cap) 24) = u from HU.out] at this; exact this
  have HL1 : Hid (([] ++ lay 8 pn).length ≤ 1000) := by show _ ≤ _; simp [lay_len]
  have HL2 : Hid ((([] ++ lay 8 pn) ++ lay 8 qn).length ≤ 1000) := by show _ ≤ _; simp [lay_len]
  have HL3 : Hid (((([] ++ lay 8 pn) ++ lay 8 qn) ++ lay 4 sn).length ≤ 1000) := by show _ ≤ _; simp [lay_len]
  have HL4 : Hid ((((([] ++ lay 8 pn) ++ lay 8 qn) ++ lay 4 sn) ++ lay 4 rs.length).length ≤ 1000) := by show _ ≤ _; simp [lay_len]
  have HX1 : Hid _ := fun v x l hl h1 h2 => lay_any v l 8 pn x u u.heap.size h1 h2 (Nat.le_refl _) hl (by omega) (by omega)
  have HX2 : Hid _ := fun v x l hl h1 h2 => lay_any v l 8 qn x u u.heap.size h1 h2 (Nat.le_refl _) hl (by omega) (by omega)
  have HX3 : Hid _ := fun v x l hl h1 h2 => lay_any v l 4 sn x u u.heap.size h1 h2 (Nat.le_refl _) hl (by omega) (by omega)
  have HX4 : Hid _ := fun v x l hl h1 h2 => lay_any v l 4 rs.length x u u.heap.size h1 h2 (Nat.le_refl _) hl (by omega) (by omega)
  have HX5 : Hid _ := fun v x l hl h1 h2 => lay_any v l 8 fn x u u.heap.size h1 h2 (Nat.le_refl _) hl (by omega) (by omega)
  generalize lay 8 pn = l1 at *
  generalize lay 8 qn = l2 at *
  generalize lay 4 sn = l3 at *
  generalize lay 4 rs.length = l4 at *
  generalize lay 8 fn = l5 at *
  go_enter Tryd.func33, Tryd.ntmps33
  go_wp2_with (first
    | (go_at_call 34; have _t := tok1; rw [HU.out]; refine (HX1.out _ _ [] (by simp) (World.ownsRow_nil _ _ _ _) (Below.refl _ _)).mono ?_; clear tok1 _t; rintro e x1 ⟨v1, rfl, hown1, hb1⟩; have HB1 : Hid (BxS w (bcells ⟨(bn : Int), (sn : Int), (pn : Int), (qn : Int), rs⟩ (some ⟨rb, roff, none⟩) cap) x1) := BxS.below HUB.out hb1; have hy1 := HY4.out _ HB1.out.bel; obtain ⟨c0, c1, c2, c3, c4, cz⟩ := BxS.cells HB1.out; simp only at c0 c1 c2 c3 c4)
    | (go_at_call 34; have _t := hown1; refine (HX2.out _ _ ([] ++ l1) HL1.out hown1 hb1).mono ?_; clear _t hown1 hb1 hy1 c0 c1 c2 c3 c4 cz; rintro e x2 ⟨v2, rfl, hown2, hb2⟩; have HB2 : Hid (BxS w (bcells ⟨(bn : Int), (sn : Int), (pn : Int), (qn : Int), rs⟩ (some ⟨rb, roff, none⟩) cap) x2) := BxS.below HUB.out hb2; have hy2 := HY4.out _ HB2.out.bel; obtain ⟨c0, c1, c2, c3, c4, cz⟩ := BxS.cells HB2.out; simp only at c0 c1 c2 c3 c4)
    | (go_at_call 34; have _t := hown2; refine (HX3.out _ _ (([] ++ l1) ++ l2) HL2.out hown2 hb2).mono ?_; clear _t hown2 hb2 hy2 c0 c1 c2 c3 c4 cz; rintro e x3 ⟨v3, rfl, hown3, hb3⟩; have HB3 : Hid (BxS w (bcells ⟨(bn : Int), (sn : Int), (pn : Int), (qn : Int), rs⟩ (some ⟨rb, roff, none⟩) cap) x3) := BxS.below HUB.out hb3; have hy3 := HY4.out _ HB3.out.bel; obtain ⟨c0, c1, c2, c3, c4, cz⟩ := BxS.cells HB3.out; simp only at c0 c1 c2 c3 c4)
    | (go_at_call 34; have _t := hown3; refine (HX4.out _ _ ((([] ++ l1) ++ l2) ++ l3) HL3.out hown3 hb3).mono ?_; clear _t hown3 hb3 hy3 c0 c1 c2 c3 c4 cz; rintro e x4 ⟨v4, rfl, hown4, hb4⟩; have HB4 : Hid (BxS w (bcells ⟨(bn : Int), (sn : Int), (pn : Int), (qn : Int), rs⟩ (some ⟨rb, roff, none⟩) cap) x4) := BxS.below HUB.out hb4; have hy4 := HY4.out _ HB4.out.bel; obtain ⟨c0, c1, c2, c3, c4, cz⟩ := BxS.cells HB4.out; simp only at c0 c1 c2 c3 c4)
    | (go_at_call 34; have _t := hown4; refine (HX5.out _ _ (((([] ++ l1) ++ l2) ++ l3) ++ l4) HL4.out hown4 hb4).mono ?_; clear _t hown4 hb4 hy4 c0 c1 c2 c3 c4 cz; rintro e x5 ⟨v5, rfl, hown5, hb5⟩; have HB5 : Hid (BxS w (bcells ⟨(bn : Int), (sn : Int), (pn : Int), (qn : Int), rs⟩ (some ⟨rb, roff, none⟩) cap) x5) := BxS.below HUB.out hb5; have hy5 := HY4.out _ HB5.out.bel; obtain ⟨c0, c1, c2, c3, c4, cz⟩ := BxS.cells HB5.out; simp only at c0 c1 c2 c3 c4))
  clear c0 c1 c2 c3 c4 cz hy5
  go_loopw [3, 4] (fun p i x => ∃ k : Nat, k ≤ rs.length ∧ i = .int .i64 k ∧ x.ownsRow u.heap.size 5 1 p (F k).length (cv (F k)) ∧ Below u.heap.size u x) (fun _ i _ => rs.length - (intOf i).toNat)
  case atStart => exact ⟨0, by omega, rfl, by rw [HFz.out]; exact hown5, hb5⟩
  case round =>
    clear hown5 hb5 HB1 HB2 HB3 HB4 HB5
    obtain ⟨k, hk, rfl, hown, hb⟩ := hrel
    have HB : Hid (BxS w (bcells ⟨(bn : Int), (sn : Int), (pn : Int), (qn : Int), rs⟩ (some ⟨rb, roff, none⟩) cap) wr) := BxS.below HUB.out hb
    have hy := HY4.out _ HB.out.bel
    obtain ⟨c0, c1, c2, c3, c4, cz⟩ := BxS.cells HB.out
    simp only at c0 c1 c2 c3 c4
    by_cases hlt : k < rs.length
    · have hltI : (k : Int) < (rs.length : Int) := by omega
      have HE := HEn.out k hlt
      have HL : Hid (F (k + 1) = F k ++ encL (rs.getD k rz) (fn : Int)) := HS.out k hlt
      have h5 := HFl.out k
      have h6 := HEL.out k hlt
      obtain ⟨b', off', e, z0, z1, z2, z3, z4, z5⟩ := (RRow.below HR0.out HB.out.bel) k hlt
      simp only [Option.some.injEq, Addr.mk.injEq, and_true] at e
      obtain ⟨rfl, rfl⟩ := e
      have hrx : rb < wr.heap.size := by omega
      have hz3 : u.heap.size ≤ wr.heap.size := hb.size
      unfold Enc at HE
      generalize rs.getD k rz = r at *
      generalize encL r (fn : Int) = L at *
      have HEn2 : Hid _ := HE
      clear HE
      obtain ⟨hk', kk, hv, v, t, o⟩ := r
      simp only at z0 z1 z2 z3 z4 z5
      simp only [Rc.cells] at HEn2
      have hS0 : (fun y : World => y.cell? ⟨w.heap.size, 4, none⟩ = some (.slice (some ⟨rb, roff, none⟩) rs.length cap) ∧ y.cell? ⟨rb, roff + 4, none⟩ = some (.int .i64 (fn : Int)) ∧ y.cell? ⟨rb, roff + k * 6, none⟩ = some (.bool hk') ∧ y.cell? ⟨rb, roff + k * 6 + 1, none⟩ = some (.string kk) ∧ y.cell? ⟨rb, roff + k * 6 + 2, none⟩ = some (.bool hv) ∧ y.cell? ⟨rb, roff + k * 6 + 3, none⟩ = some (.string v) ∧ y.cell? ⟨rb, roff + k * 6 + 4, none⟩ = some (.int .i64 t) ∧ y.cell? ⟨rb, roff + k * 6 + 5, none⟩ = some (.int .i64 o)) wr := ⟨c4, hy, z0, z1, z2, z3, z4, z5⟩
      have HKP : Hid (∀ x y, Below x.heap.size x y → (fun y : World => y.cell? ⟨w.heap.size, 4, none⟩ = some (.slice (some ⟨rb, roff, none⟩) rs.length cap) ∧ y.cell? ⟨rb, roff + 4, none⟩ = some (.int .i64 (fn : Int)) ∧ y.cell? ⟨rb, roff + k * 6, none⟩ = some (.bool hk') ∧ y.cell? ⟨rb, roff + k * 6 + 1, none⟩ = some (.string kk) ∧ y.cell? ⟨rb, roff + k * 6 + 2, none⟩ = some (.bool hv) ∧ y.cell? ⟨rb, roff + k * 6 + 3, none⟩ = some (.string v) ∧ y.cell? ⟨rb, roff + k * 6 + 4, none⟩ = some (.int .i64 t) ∧ y.cell? ⟨rb, roff + k * 6 + 5, none⟩ = some (.int .i64 o)) x → (fun y : World => y.cell? ⟨w.heap.size, 4, none⟩ = some (.slice (some ⟨rb, roff, none⟩) rs.length cap) ∧ y.cell? ⟨rb, roff + 4, none⟩ = some (.int .i64 (fn : Int)) ∧ y.cell? ⟨rb, roff + k * 6, none⟩ = some (.bool hk') ∧ y.cell? ⟨rb, roff + k * 6 + 1, none⟩ = some (.string kk) ∧ y.cell? ⟨rb, roff + k * 6 + 2, none⟩ = some (.bool hv) ∧ y.cell? ⟨rb, roff + k * 6 + 3, none⟩ = some (.string v) ∧ y.cell? ⟨rb, roff + k * 6 + 4, none⟩ = some (.int .i64 t) ∧ y.cell? ⟨rb, roff + k * 6 + 5, none⟩ = some (.int .i64 o)) y) := by
        rintro x y hb ⟨g0, g1, g2, g3, g4, g5, g6, g7⟩
        exact ⟨(hb.cell (World.block_lt_of_cell? _ _ g0)).trans g0, (hb.cell (World.block_lt_of_cell? _ _ g1)).trans g1, (hb.cell (World.block_lt_of_cell? _ _ g2)).trans g2, (hb.cell (World.block_lt_of_cell? _ _ g3)).trans g3, (hb.cell (World.block_lt_of_cell? _ _ g4)).trans g4, (hb.cell (World.block_lt_of_cell? _ _ g5)).trans g5, (hb.cell (World.block_lt_of_cell? _ _ g6)).trans g6, (hb.cell (World.block_lt_of_cell? _ _ g7)).trans g7⟩
      go_wp2_with fail
      go_region_held3 (fun y : World => y.cell? ⟨w.heap.size, 4, none⟩ = some (.slice (some ⟨rb, roff, none⟩) rs.length cap) ∧ y.cell? ⟨rb, roff + 4, none⟩ = some (.int .i64 (fn : Int)) ∧ y.cell? ⟨rb, roff + k * 6, none⟩ = some (.bool hk') ∧ y.cell? ⟨rb, roff + k * 6 + 1, none⟩ = some (.string kk) ∧ y.cell? ⟨rb, roff + k * 6 + 2, none⟩ = some (.bool hv) ∧ y.cell? ⟨rb, roff + k * 6 + 3, none⟩ = some (.string v) ∧ y.cell? ⟨rb, roff + k * 6 + 4, none⟩ = some (.int .i64 t) ∧ y.cell? ⟨rb, roff + k * 6 + 5, none⟩ = some (.int .i64 o)) (first | exact hS4 | exact hS0)
        ((go_at_call 50; refine (HEn2.out _).mono ?_; rintro e w4 ⟨a4, c4', rfl, hr4, hn4, hb4⟩; have hS4 := HKP.out _ _ hb4 hS0; have hb5 : Below wr.heap.size wr w4 := (Below.refl _ wr).drew.trans hb4; have hown4 := owns_below hown hb5; have hbel4 := hb.trans (hb5.mono hz3)))
      go_wp2_with (at_builtin; refine wpList_append_row (by rfl) _ _ rfl u.heap.size u _ _ _ rfl hown4 hbel4 hbel4.size a4 c4' L rfl hr4 hn4 (by omega) ?_; intro v5 w5 hown5 hbel5)
      refine ⟨⟨k + 1, by omega, by go_num, by rw [HL.out, List.length_append, cv_append]; exact hown5, hbel5⟩, by simp [intOf]; omega⟩
    · obtain rfl : k = rs.length := by omega
      go_wp2_with fail
      go_ret
      exact ⟨_, rfl, owns_le hown (by have := HUB.out.bel.size; omega), HB.out.bel⟩
end Go.Proofs.YtgpeldmplkijlaaDoor
namespace Go.Proofs.YtgpeldmplkijlaaDoor
set_option linter.unusedSimpArgs false
set_option linter.unusedVariables false
open Go.RowKit
theorem wr_nums {b : Ba} (h : numsB b = false) : chkB b = 1 := by
  have : wrE b = 1 := by unfold wrE; rw [h]; simp
  unfold chkB
  rw [this]
  simp
theorem wr_rise {b : Ba} (h : ¬ Rise b.rs b.span) : chkB b = 1 := by
  have : wrE b = 1 := by unfold wrE; rw [rise_no h]; simp
  unfold chkB
  rw [this]
  simp
theorem wr_fst {b : Ba} (hn : numsB b = true) (h : Rise b.rs b.span) : wrE b = fstE b.rs := by unfold wrE; rw [hn, rise_yes h]; simp
theorem chk_neg {r : Rc} (h : r.o < 0) : chk r = 1 := by
  unfold chk
  rw [if_pos]
  unfold oddB
  simp [h]
theorem wr_neg {b : Ba} (hn : numsB b = true) (h0 : 0 < b.rs.length) (h : (b.rs.getD 0 rz).o < 0) : chkB b = 1 := by
  by_cases hr : Rise b.rs b.span
  · have e1 := fst_at b.rs 0 h0 (fun x hx => by omega) (by rw [chk_neg h]; omega)
    have : wrE b = 1 := by rw [wr_fst hn hr, e1, chk_neg h]
    unfold chkB
    rw [this]
    simp
  · exact wr_rise hr
theorem wr_at {b : Ba} (hn : numsB b = true) (hr : Rise b.rs b.span) (k : Nat) (hk : k < b.rs.length) (h : ∀ x, x < k → chk (b.rs.getD x rz) = 0) (hc : chk (b.rs.getD k rz) ≠ 0) : chkB b = chk (b.rs.getD k rz) := by
  have e := wr_fst hn hr
  rw [fst_at b.rs k hk h hc] at e
  unfold chkB
  rw [e, if_neg hc]
theorem wr_all {b : Ba} (hn : numsB b = true) (hr : Rise b.rs b.span) (h : ∀ x, x < b.rs.length → chk (b.rs.getD x rz) = 0) : wrE b = 0 := by rw [wr_fst hn hr, fst_zero b.rs h]
/-- The texts' sizes. -/
def szs (rs : List Rc) : Nat := (rs.map fun r => r.k.size + r.v.size).sum
theorem szs_take (rs : List Rc) (k : Nat) (h : k < rs.length) : szs (rs.take (k + 1)) = szs (rs.take k) + ((rs.getD k rz).k.size + (rs.getD k rz).v.size) := by
  unfold szs
  rw [List.take_succ_eq_append_getElem h, List.map_append, List.sum_append]
  simp [List.getD, h]
theorem size_nil {s : ByteArray} (h : s.toList = []) : s.size = 0 := by
  rw [empty_of h]
  rfl
theorem enc_ge {r : Rc} (first : Int) (h : chk r = 0) : r.k.size + r.v.size ≤ (encL r first).length := by
  obtain ⟨_, _, _, _, _, _, hk, hv⟩ := chk_ok h
  have e1 : r.k.size ≤ (textL r.hk r.k).length := by
    unfold textL
    cases e : r.hk
    · rw [size_nil (hk e)]; omega
    · simp [sb_len]
  have e2 : r.v.size ≤ (textL r.hv r.v).length := by
    unfold textL
    cases e : r.hv
    · rw [size_nil (hv e)]; omega
    · simp [sb_len]
  unfold encL
  simp only [List.length_cons, List.length_append]
  omega
theorem szs_le {rs : List Rc} (first : Int) (h : ∀ r, r ∈ rs → chk r = 0) : szs rs ≤ (bodyL rs first).length := by
  induction rs with
  | nil => simp [szs]
  | cons r t ih =>
    have h1 := ih (fun q hq => h q (by simp [hq]))
    have h2 := enc_ge first (h r (by simp))
    rw [body_cons, List.length_append]
    simp only [szs, List.map_cons, List.sum_cons] at h1 ⊢
    omega
theorem rise_pre {rs : List Rc} {span : Int} (h : Rise rs span) (k : Nat) (hk : k ≤ rs.length) (hc : ∀ x, x < k → chk (rs.getD x rz) = 0) (hs : span ≤ 100) : k ≤ 100 := by
  have hg : ∀ i, i < k → (i : Int) ≤ (rs.getD i rz).o := by
    intro i
    induction i with
    | zero =>
      intro hi
      have := (chk_ok (hc 0 hi)).2.2.1
      omega
    | succ i ih =>
      intro hi
      have h1 := ih (by omega)
      have h2 := (h (i + 1) (by omega)).2 (by omega)
      simp only [Nat.add_sub_cancel] at h2
      omega
  by_cases h0 : k = 0
  · omega
  · have h3 := hg (k - 1) (by omega)
    have h4 := (h (k - 1) (by omega)).1
    omega
theorem szs_bd {rs : List Rc} (k : Nat) (hk : k ≤ rs.length) (hc : ∀ x, x < k → chk (rs.getD x rz) = 0) : szs (rs.take k) ≤ k * 4000 := by
  induction k with
  | zero => simp [szs]
  | succ k ih =>
    rw [szs_take rs k (by omega)]
    have := ih (by omega) (fun x hx => hc x (by omega))
    obtain ⟨_, _, _, _, k1, v1, _⟩ := chk_ok (hc k (by omega))
    omega
set_option maxHeartbeats 4000000 in
set_option maxRecDepth 100000 in
theorem rcheckB_any (b : Ba) (a : Option Addr) (cap : Nat) (w : World) (hr : RRow w a b.rs) (hi : In64B b) (hl : b.rs.length ≤ maxLen) :
    Calls Tryd.prog 17 #[bav b a cap] w fun e w' => e = .returned (.int .i64 (chkB b)) ∧ Below w.heap.size w w' := by
  have hl0 := hl
  unfold maxLen at hl
  have PN : Hid (numsB b = false → chkB b = 1) := wr_nums
  have PR : Hid (¬ Rise b.rs b.span → chkB b = 1) := wr_rise
  have PG : Hid (numsB b = true → (b.rs.getD 0 rz).o < 0 → 0 < b.rs.length → chkB b = 1) := fun h1 h2 h3 => wr_neg h1 h3 h2
  have PA : Hid (numsB b = true → Rise b.rs b.span → ∀ k, k < b.rs.length → (∀ x, x < k → chk (b.rs.getD x rz) = 0) → chk (b.rs.getD k rz) ≠ 0 → chkB b = chk (b.rs.getD k rz)) := fun h1 h2 k => wr_at h1 h2 k
  have PZ : Hid (numsB b = true → Rise b.rs b.span → (∀ x, x < b.rs.length → chk (b.rs.getD x rz) = 0) → wrE b = 0) := wr_all
  have PS : Hid (∀ n, (∀ x, x < b.rs.length → chk (b.rs.getD x rz) = 0) → szs b.rs = n → wrE b = 0 → 6000 < n → chkB b = 2) := by
    intro n h hn hw hs
    have hc := (wr_ok hw).2.2.2.2.2.2
    have := szs_le (frs b) hc
    unfold chkB
    rw [if_pos hw, if_pos (by omega)]
  have PC : Hid (∀ m, wrE b = 0 → (tailL b).length = m → chkB b = if 6000 < m + 16 then 2 else 0) := by
    intro m hw hm
    have := tail_len b
    unfold chkB
    rw [if_pos hw, show 48 + (bodyL b.rs (frs b)).length = m + 16 by omega]
  have PB : Hid (∀ x, RRow x a b.rs → wrE b = 0 → Calls Tryd.prog 33 #[bav b a cap] x fun e w' => ∃ v, e = .returned v ∧ w'.ownsRow x.heap.size 5 1 v (tailL b).length (cv (tailL b)) ∧ Below x.heap.size x w') := fun x hx hw => rbody_any b a cap x hx hi hw
  have PM : Hid (wrE b = 0 → (∀ i, (tailL b).getD i 0 < 256) ∧ (tailL b).length ≤ 600000) := by
    intro hw
    refine ⟨lt_mem (fun x hx => encB_mem hw x (by unfold encBL; exact List.mem_append_right _ hx)), ?_⟩
    have h1 := body_len (frs b) (wr_ok hw).2.2.2.2.2.2
    have h2 := (wr_len hw).1
    have h3 := tail_len b
    omega
  have PL : Hid (wrE b = 0 → b.rs.length ≤ 100) := fun hw => (wr_len hw).1
  obtain ⟨c, HC⟩ : ∃ c, Hid (chkB b = c) := ⟨_, rfl⟩
  have HNU : Hid (numsB b = (baseB b.base && decide (1 ≤ b.span) && decide (b.span ≤ 100) && decide (0 ≤ b.prod) && decide (0 ≤ b.seq) && decide (0 < b.rs.length))) := rfl
  rw [HC.out] at PN PR PG PA PS PC ⊢
  obtain ⟨W0, HW0⟩ : ∃ W0, Hid (wrE b = W0) := ⟨_, rfl⟩
  rw [HW0.out] at PZ PS PC PB PM PL
  generalize tailL b = TL at *
  generalize numsB b = nb at *
  clear HC HW0 hi
  obtain ⟨base, span, prod, seq, rs⟩ := b
  simp only [bav] at *
  simp only [baseB] at HNU
  have HR0 : Hid (RRow w a rs) := hr
  clear hr
  have HZ : Hid (∀ cs, Below w.heap.size w (w.alloc (.cells cs 24))) := fun cs => below_box _
  by_cases h1 : base < 0
  · have h1d : decide (base < 0) = true := decide_eq_true h1
    go_enter Tryd.func17, Tryd.ntmps17
    go_wp2_with fail
    go_ret
    refine ⟨retI (PN.out ?_).symm, HZ.out _⟩
    rw [HNU.out]
    simp
    try omega
  · have h1d : decide (base < 0) = false := decide_eq_false h1
    by_cases h2 : 1125899906842624 < base
    · have h2d : decide (1125899906842624 < base) = true := decide_eq_true h2
      go_enter Tryd.func17, Tryd.ntmps17
      go_wp2_with fail
      go_ret
      refine ⟨retI (PN.out ?_).symm, HZ.out _⟩
      rw [HNU.out]
      simp
      try omega
    · have h2d : decide (1125899906842624 < base) = false := decide_eq_false h2
      by_cases h3 : span < 1
      · have h3d : decide (span < 1) = true := decide_eq_true h3
        go_enter Tryd.func17, Tryd.ntmps17
        go_wp2_with fail
        go_ret
        refine ⟨retI (PN.out ?_).symm, HZ.out _⟩
        rw [HNU.out]
        simp
        try omega
      · have h3d : decide (span < 1) = false := decide_eq_false h3
        by_cases h4 : 100 < span
        · have h4d : decide (100 < span) = true := decide_eq_true h4
          go_enter Tryd.func17, Tryd.ntmps17
          go_wp2_with fail
          go_ret
          refine ⟨retI (PN.out ?_).symm, HZ.out _⟩
          rw [HNU.out]
          simp
          try omega
        · have h4d : decide (100 < span) = false := decide_eq_false h4
          by_cases h5 : prod < 0
          · have h5d : decide (prod < 0) = true := decide_eq_true h5
            go_enter Tryd.func17, Tryd.ntmps17
            go_wp2_with fail
            go_ret
            refine ⟨retI (PN.out ?_).symm, HZ.out _⟩
            rw [HNU.out]
            simp
            try omega
          · have h5d : decide (prod < 0) = false := decide_eq_false h5
            by_cases h6 : seq < 0
            · have h6d : decide (seq < 0) = true := decide_eq_true h6
              go_enter Tryd.func17, Tryd.ntmps17
              go_wp2_with fail
              go_ret
              refine ⟨retI (PN.out ?_).symm, HZ.out _⟩
              rw [HNU.out]
              simp
              try omega
            · have h6d : decide (seq < 0) = false := decide_eq_false h6
              by_cases h7 : ((rs.length : Int) == 0) = true
              · go_enter Tryd.func17, Tryd.ntmps17
                go_wp2_with fail
                go_ret
                refine ⟨retI (PN.out ?_).symm, HZ.out _⟩
                rw [HNU.out]
                have : rs.length = 0 := by simpa using h7
                simp [this]
              have h7d : ((rs.length : Int) == 0) = false := by simpa using h7
              have hpos : 0 < rs.length := by
                rcases Nat.eq_zero_or_pos rs.length with h | h
                · exact absurd (by rw [h]; rfl) h7
                · exact h
              have hnb : nb = true := by
                rw [HNU.out]
                simp [hpos]
                omega
              subst hnb
              clear HNU PN
              go_enter Tryd.func17, Tryd.ntmps17
              go_wp2_with fail
              have HB0 : Hid (BxS w (bcells ⟨base, span, prod, seq, rs⟩ a cap) (w.alloc (.cells #[.int .i64 base, .int .i64 span, .int .i64 prod, .int .i64 seq, .slice a rs.length cap] 24))) := BxS.new w _
              have HSP : Hid (span ≤ 100) := (by show _ ≤ _; omega)
              clear h1 h1d h2 h2d h3 h3d h4 h4d h5 h5d h6 h6d h7 h7d HZ
              go_loopw [3, 4] (fun l i wr => ∃ (k : Nat) (z : Int), k ≤ rs.length ∧ i = .int .i64 k ∧ l = .int .i64 z ∧ (k = 0 → z = -1) ∧ (0 < k → z = (rs.getD (k - 1) rz).o) ∧ (∀ x, x < k → RiseAt rs span x) ∧ BxS w (bcells ⟨base, span, prod, seq, rs⟩ a cap) wr) (fun _ i _ => rs.length - (intOf i).toNat)
              case atStart => exact ⟨0, -1, by omega, rfl, rfl, fun _ => rfl, fun h => absurd h (by omega), by intro x hx; omega, HB0.out⟩
              case round =>
                obtain ⟨k, z, hk, rfl, rfl, hz0, hz1, hS, hB⟩ := hrel
                have HS : Hid (∀ x, x < k → RiseAt rs span x) := hS
                have HB : Hid (BxS w (bcells ⟨base, span, prod, seq, rs⟩ a cap) wr) := hB
                obtain ⟨c0, c1, c2, c3, c4, cz⟩ := BxS.cells hB
                simp only at c0 c1 c2 c3 c4
                clear hS hB HB0
                by_cases hlt : k < rs.length
                · have hltI : (k : Int) < (rs.length : Int) := by omega
                  have HQ : Hid ((rs.getD k rz).o < span → z < (rs.getD k rz).o → ∀ x, x < k + 1 → RiseAt rs span x) := by
                    intro e1 e2 j hj
                    by_cases hjk : j = k
                    · subst hjk
                      exact ⟨e1, fun h => by rw [← hz1 h]; exact e2⟩
                    · exact HS.out j (by omega)
                  have HN : Hid (¬ ((rs.getD k rz).o < span ∧ z < (rs.getD k rz).o) → c = 1) := by
                    intro h
                    by_cases hk0 : k = 0
                    · by_cases ho : (rs.getD 0 rz).o < 0
                      · exact PG.out trivial ho hpos
                      · refine PR.out (fun q => h ⟨(q k hlt).1, ?_⟩)
                        rw [hz0 hk0, hk0]
                        omega
                    · refine PR.out (fun q => h ⟨(q k hlt).1, ?_⟩)
                      rw [hz1 (by omega)]
                      exact (q k hlt).2 (by omega)
                  obtain ⟨b', off, rfl, z0, z1, z2, z3, z4, z5⟩ := (RRow.below HR0.out HB.out.bel) k hlt
                  have hbz := World.block_lt_of_cell? _ _ z0
                  simp only at hbz
                  have HBB : Hid (∀ cs, BxS w (bcells ⟨base, span, prod, seq, rs⟩ (some ⟨b', off, none⟩) cap) (wr.alloc (.cells cs 58))) := fun cs => BxS.below HB.out (below_box _)
                  have HO : Hid (∀ o, (rs.getD k rz).o = o → (rs.getD (k + 1 - 1) rz).o = o) := fun o h => by rw [Nat.add_sub_cancel]; exact h
                  clear hz0 hz1
                  generalize rs.getD k rz = r at *
                  obtain ⟨hk', kk, hv, v, t, o⟩ := r
                  simp only at z0 z1 z2 z3 z4 z5
                  by_cases g1 : o ≤ z
                  · have g1d : decide (o ≤ z) = true := decide_eq_true g1
                    go_wp2_with fail
                    go_ret
                    exact ⟨retI (HN.out (fun q => absurd q.2 (by show ¬ z < o; omega))).symm, (HBB.out _).bel⟩
                  · have g1d : decide (o ≤ z) = false := decide_eq_false g1
                    by_cases g2 : span ≤ o
                    · have g2d : decide (span ≤ o) = true := decide_eq_true g2
                      go_wp2_with fail
                      go_ret
                      exact ⟨retI (HN.out (fun q => absurd q.1 (by show ¬ o < span; omega))).symm, (HBB.out _).bel⟩
                    · have g2d : decide (span ≤ o) = false := decide_eq_false g2
                      go_wp2_with fail
                      exact ⟨⟨k + 1, o, by omega, by go_num, rfl, fun h => absurd h (by omega), fun _ => (HO.out o rfl).symm, HQ.out (by show o < span; omega) (by show z < o; omega), HBB.out _⟩, by simp [intOf]; omega⟩
                · obtain rfl : k = rs.length := by omega
                  have HRS : Hid (Rise rs span) := HS.out
                  clear HS hz0 hz1 PR PG
                  have HB1 := HB
                  clear HB
                  have HSZ : Hid (szs (rs.take rs.length) = szs rs) := by show _ = _; rw [List.take_length]
                  have HWR : Hid ((∀ x, x < rs.length → chk (rs.getD x rz) = 0) → W0 = 0) := fun h => PZ.out trivial HRS.out h
                  go_wp2_with fail
                  clear c0 c1 c2 c3 c4 cz
                  go_loopw [6, 7] (fun n i wr => ∃ (k : Nat), k ≤ rs.length ∧ i = .int .i64 k ∧ n = .int .i64 ((szs (rs.take k) : Nat) : Int) ∧ (∀ x, x < k → chk (rs.getD x rz) = 0) ∧ BxS w (bcells ⟨base, span, prod, seq, rs⟩ a cap) wr) (fun _ i _ => rs.length - (intOf i).toNat)
                  case atStart => exact ⟨0, by omega, rfl, rfl, by intro x hx; omega, HB1.out⟩
                  case round =>
                    clear HB1
                    obtain ⟨k, hk, rfl, rfl, hS, hB⟩ := hrel
                    have HS : Hid (∀ x, x < k → chk (rs.getD x rz) = 0) := hS
                    have HB : Hid (BxS w (bcells ⟨base, span, prod, seq, rs⟩ a cap) wr) := hB
                    have hk100 := rise_pre HRS.out k hk hS HSP.out
                    have hnb := szs_bd k hk hS
                    obtain ⟨c0, c1, c2, c3, c4, cz⟩ := BxS.cells hB
                    simp only at c0 c1 c2 c3 c4
                    clear hS hB
                    by_cases hlt : k < rs.length
                    · have hltI : (k : Int) < (rs.length : Int) := by omega
                      have HQ : Hid (chk (rs.getD k rz) = 0 → ∀ x, x < k + 1 → chk (rs.getD x rz) = 0) := by
                        intro e j hj
                        by_cases hjk : j = k
                        · subst hjk; exact e
                        · exact HS.out j (by omega)
                      have HN : Hid (chk (rs.getD k rz) ≠ 0 → c = chk (rs.getD k rz)) := fun h => PA.out trivial HRS.out k hlt HS.out h
                      have HST : Hid (szs (rs.take (k + 1)) = szs (rs.take k) + ((rs.getD k rz).k.size + (rs.getD k rz).v.size)) := szs_take rs k hlt
                      have HKV : Hid (chk (rs.getD k rz) = 0 → (rs.getD k rz).k.size ≤ 2000 ∧ (rs.getD k rz).v.size ≤ 2000) := fun h => ⟨(chk_ok h).2.2.2.2.1, (chk_ok h).2.2.2.2.2.1⟩
                      have HCK : Hid _ := rcheck_any (rs.getD k rz)
                      have HRR := RRow.below HR0.out HB.out.bel
                      obtain ⟨b', off, rfl, z0, z1, z2, z3, z4, z5⟩ := HRR k hlt
                      have hbz := World.block_lt_of_cell? _ _ z0
                      simp only at hbz
                      have HRX : Hid (∀ x, Below wr.heap.size wr x → x.cell? ⟨b', off + k * 6 + 1, none⟩ = some (.string (rs.getD k rz).k) ∧ x.cell? ⟨b', off + k * 6 + 3, none⟩ = some (.string (rs.getD k rz).v)) := fun x hx => ⟨(hx.cell (World.block_lt_of_cell? _ _ z1)).trans z1, (hx.cell (World.block_lt_of_cell? _ _ z3)).trans z3⟩
                      clear HRR
                      generalize szs (rs.take k) = S at *
                      generalize rs.getD k rz = r at *
                      obtain ⟨cc, HC0⟩ : ∃ cc, Hid (chk r = cc) := ⟨_, rfl⟩
                      rw [HC0.out] at HCK HQ HN HKV
                      obtain ⟨hk', kk, hv, v, t, o⟩ := r
                      simp only at z0 z1 z2 z3 z4 z5
                      simp only [Rc.cells] at HCK
                      by_cases h0 : cc = 0
                      · subst h0
                        obtain ⟨kb, vb⟩ := HKV.out rfl
                        simp only at kb vb
                        have kbI : (kk.size : Int) ≤ 2000 := by omega
                        have vbI : (v.size : Int) ≤ 2000 := by omega
                        have hSI : (S : Int) ≤ 400000 := by omega
                        have w1 : IntKind.i64.wrap ((S : Int) + (kk.size : Int)) = (S : Int) + (kk.size : Int) := by rw [IntKind.wrap_i64]; omega
                        have w2 : IntKind.i64.wrap ((S : Int) + (kk.size : Int) + (v.size : Int)) = (S : Int) + (kk.size : Int) + (v.size : Int) := by rw [IntKind.wrap_i64]; omega
                        go_wp2_with (go_at_call 36; refine (HCK.out _).mono ?_; rintro e w4 ⟨rfl, hb4⟩; have HB4 : Hid (BxS w (bcells ⟨base, span, prod, seq, rs⟩ (some ⟨b', off, none⟩) cap) w4) := BxS.below HB.out hb4; obtain ⟨y1, y3⟩ := HRX.out w4 hb4; clear c0 c1 c2 c3 c4 cz z0 z1 z2 z3 z4 z5; obtain ⟨c0, c1, c2, c3, c4, cz⟩ := BxS.cells HB4.out; simp only at c0 c1 c2 c3 c4 y1 y3)
                        go_quiet (fail)
                        go_wp2
                        refine ⟨⟨k + 1, by omega, by go_num, ?_, HQ.out trivial, ?_⟩, by simp [intOf]; omega⟩
                        · rw [HST.out]; go_num
                        · exact BxS.below HB4.out (below_drewN (Below.refl _ _) _)
                      · have h0' : (cc != 0) = true := by rw [bne_iff_ne]; exact h0
                        go_wp2_with (go_at_call 36; refine (HCK.out _).mono ?_; rintro e w4 ⟨rfl, hb4⟩; have HB4 : Hid (Below w.heap.size w w4) := HB.out.bel.trans (hb4.mono HB.out.bel.size))
                        go_ret
                        exact ⟨retI (HN.out (by simpa using h0')).symm, HB4.out⟩
                    · obtain rfl : k = rs.length := by omega
                      have hW := HWR.out HS.out
                      subst hW
                      obtain ⟨n0, HN0⟩ : ∃ n0, Hid (szs rs = n0) := ⟨_, rfl⟩
                      rw [HSZ.out, HN0.out] at hnb ⊢
                      by_cases h6 : (6000 : Int) < (n0 : Int)
                      · have h6d : decide ((6000 : Int) < (n0 : Int)) = true := decide_eq_true h6
                        go_wp2_with fail
                        go_ret
                        exact ⟨retI (PS.out n0 HS.out HN0.out (by trivial) (by omega)).symm, HB.out.bel⟩
                      · have h6d : decide ((6000 : Int) < (n0 : Int)) = false := decide_eq_false h6
                        obtain ⟨HTB, hTL⟩ := PM.out rfl
                        have HTB2 : Hid (∀ i, TL.getD i 0 < 256) := HTB
                        clear HTB
                        obtain ⟨m, HM⟩ : ∃ m, Hid (TL.length = m) := ⟨_, rfl⟩
                        have hcm := PC.out m rfl HM.out
                        have HPB : Hid _ := fun x hx => PB.out x hx rfl
                        rw [HM.out] at hTL
                        have w3 : IntKind.i64.wrap ((m : Int) + 16) = (m : Int) + 16 := by rw [IntKind.wrap_i64]; omega
                        have HCM : Hid (c = if 6000 < m + 16 then 2 else 0) := hcm
                        clear hcm
                        by_cases h8 : (6000 : Int) < (m : Int) + 16
                        · go_wp2_with (go_at_call 33; refine (HPB.out _ (RRow.below HR0.out HB.out.bel)).mono ?_; rintro e w5 ⟨v5, rfl, hown5, hb5⟩; obtain ⟨a5, k5, rfl, hr5, hn5⟩ := owns_sl hown5 HTB2.out; rw [HM.out]; have HB5 : Hid (Below w.heap.size w w5) := HB.out.bel.trans (hb5.mono HB.out.bel.size); clear hown5 hr5 hn5)
                          go_ret
                          exact ⟨retI (by rw [HCM.out, if_pos (by omega)]), HB5.out⟩
                        · go_wp2_with (go_at_call 33; refine (HPB.out _ (RRow.below HR0.out HB.out.bel)).mono ?_; rintro e w5 ⟨v5, rfl, hown5, hb5⟩; obtain ⟨a5, k5, rfl, hr5, hn5⟩ := owns_sl hown5 HTB2.out; rw [HM.out]; have HB5 : Hid (Below w.heap.size w w5) := HB.out.bel.trans (hb5.mono HB.out.bel.size); clear hown5 hr5 hn5)
                          go_ret
                          exact ⟨retI (by rw [HCM.out, if_neg (by omega)]), HB5.out⟩
end Go.Proofs.YtgpeldmplkijlaaDoor
namespace Go.Proofs.YtgpeldmplkijlaaDoor
set_option linter.unusedSimpArgs false
set_option linter.unusedVariables false
open Go.RowKit
set_option maxHeartbeats 1600000 in
set_option maxRecDepth 100000 in
theorem rencodeB_any (b : Ba) (a : Option Addr) (cap : Nat) (hi : In64B b) (hl : b.rs.length ≤ maxLen) : BEnc 14 b a cap := fun w ht hr => by
  have HK : Hid (∀ x, RRow x a b.rs → Calls Tryd.prog 17 #[bav b a cap] x fun e w' => e = .returned (.int .i64 (chkB b)) ∧ Below x.heap.size x w') := fun x hx => rcheckB_any b a cap x hx hi hl
  have HR0 : Hid (RRow w a b.rs) := hr
  by_cases h : chkB b = 0
  · obtain ⟨hw, h6⟩ := chk_parts h
    have hR : encBR b = encBL b := by unfold encBR; rw [if_pos h]
    rw [h] at HK
    rw [h, hR]
    obtain ⟨b0, b1⟩ := (wr_ok hw).1
    obtain ⟨bn, ebn⟩ := Int.eq_ofNat_of_zero_le b0
    have HB : Hid (∀ x, RRow x a b.rs → Calls Tryd.prog 33 #[bav b a cap] x fun e w' => ∃ v, e = .returned v ∧ w'.ownsRow x.heap.size 5 1 v (tailL b).length (cv (tailL b)) ∧ Below x.heap.size x w') := fun x hx => rbody_any b a cap x hx hi hw
    have HTB : Hid (∀ i, (tailL b).getD i 0 < 256) := lt_mem (fun x hx => encB_mem hw x (by unfold encBL; exact List.mem_append_right _ hx))
    have hTL : (tailL b).length ≤ 6000 := by have := tail_len b; omega
    have hsl := sum_lt (tailL b) (mem_lt HTB.out)
    have hE : encBL b = (([] ++ lay 8 bn) ++ lay 4 ((tailL b).length + 4)) ++ lay 4 (P.sum (tailL b)) ++ tailL b := by
      unfold encBL headL
      rw [ebn]
      simp
    rw [hE]
    generalize tailL b = TL at *
    have HSU : Hid (∀ x a k, Row x a TL → Calls Tryd.prog 35 #[.slice a TL.length k] x fun e w' => e = .returned (.int .u32 ((P.sum TL : Nat) : Int)) ∧ w' = x) := fun x a k hr => rsum_any a k TL x hr (by unfold maxLen; omega)
    generalize P.sum TL = sn at *
    clear hE hR h hw h6 b0
    obtain ⟨base, span, prod, seq, rs⟩ := b
    simp only [bav] at *
    subst ebn
    have HX1 : Hid _ := fun v x u l hl h1 h2 => lay_any v l 8 bn x u u.heap.size h1 h2 (Nat.le_refl _) hl (by omega) (by omega)
    have HX2 : Hid _ := fun v x u l hl h1 h2 => lay_any v l 4 (TL.length + 4) x u u.heap.size h1 h2 (Nat.le_refl _) hl (by omega) (by omega)
    have HX3 : Hid _ := fun v x u l hl h1 h2 => lay_any v l 4 sn x u u.heap.size h1 h2 (Nat.le_refl _) hl (by omega) (by omega)
    have HL1 : Hid (([] ++ lay 8 bn).length ≤ 1000) := by show _ ≤ _; simp [lay_len]
    have HL2 : Hid ((([] ++ lay 8 bn) ++ lay 4 (TL.length + 4)).length ≤ 1000) := by show _ ≤ _; simp [lay_len]
    have HL3 : Hid (((([] ++ lay 8 bn) ++ lay 4 (TL.length + 4)) ++ lay 4 sn).length ≤ 1000) := by show _ ≤ _; simp [lay_len]
    generalize lay 8 bn = l1 at *
    generalize lay 4 (TL.length + 4) = l2 at *
    generalize lay 4 sn = l3 at *
    have hw1 : IntKind.u64.wrap (bn : Int) = (bn : Int) := by rw [IntKind.wrap_u64]; omega
    have hw2 : IntKind.i64.wrap ((TL.length : Int) + 4) = ((TL.length + 4 : Nat) : Int) := by rw [IntKind.wrap_i64]; omega
    have hw3 : IntKind.u64.wrap ((TL.length + 4 : Nat) : Int) = ((TL.length + 4 : Nat) : Int) := by rw [IntKind.wrap_u64]; omega
    have hw4 : IntKind.u64.wrap (sn : Int) = (sn : Int) := by rw [IntKind.wrap_u64]; omega
    obtain ⟨tn, HTN⟩ : ∃ tn, Hid (TL.length + 4 = tn) := ⟨_, rfl⟩
    rw [HTN.out] at HX2 hw2 hw3
    clear hr ht b1
    have tok1 : True := trivial
    go_enter Tryd.func14, Tryd.ntmps14
    go_wp2_with (first
      | (go_at_call 17; refine (HK.out _ (RRow.below HR0.out (below_box _))).mono ?_; rintro e w1 ⟨rfl, hb1⟩; have HB1 : Hid (BxS w (bcells ⟨(bn : Int), span, prod, seq, rs⟩ a cap) w1) := BxS.below (BxS.new w _) hb1; have HRR : Hid (RRow w1 a rs) := RRow.below (RRow.below HR0.out (below_box _)) hb1; obtain ⟨c0, c1, c2, c3, c4, cz⟩ := BxS.cells HB1.out; simp only at c0 c1 c2 c3 c4; clear hb1)
      | (go_at_call 33; refine (HB.out _ HRR.out).mono ?_; rintro e w2 ⟨v2, rfl, hown2, hb2⟩; obtain ⟨a2, k2, rfl, hr2, hn2⟩ := owns_sl hown2 HTB.out; have HB2 : Hid (BxS w (bcells ⟨(bn : Int), span, prod, seq, rs⟩ a cap) w2) := BxS.below HB1.out hb2; clear c0 c1 c2 c3 c4 cz hown2 hb2 HRR; obtain ⟨c0, c1, c2, c3, c4, cz⟩ := BxS.cells HB2.out; simp only at c0 c1 c2 c3 c4; have HRW : Hid (Row w2 a2 TL) := hr2; clear hr2)
      | (go_at_call 34; have _t := tok1; refine (HX1.out _ _ w2 [] (by simp) (World.ownsRow_nil _ _ _ _) (Below.refl _ _)).mono ?_; clear tok1 _t; rintro e x1 ⟨v1, rfl, hown1, hb1⟩)
      | (go_at_call 34; have _t := hown1; refine (HX2.out _ _ w2 ([] ++ l1) HL1.out hown1 hb1).mono ?_; clear hown1 _t; rintro e x2 ⟨v3, rfl, hown2, hb2⟩; have hr2 := Row.below HRW.out hb2)
      | (go_at_call 35; refine (HSU.out _ _ _ hr2).mono ?_; rintro e x3 ⟨rfl, hw⟩; subst x3)
      | (go_at_call 34; have _t := hown2; refine (HX3.out _ _ w2 (([] ++ l1) ++ l2) HL2.out hown2 hb2).mono ?_; clear hown2 _t hr2; rintro e x4 ⟨v4, rfl, hown4, hb4⟩; have hr4 := Row.below HRW.out hb4)
      | (at_builtin; refine wpList_append_row (by rfl) _ _ rfl w2.heap.size w2 _ _ _ rfl hown4 hb4 hb4.size a2 k2 TL rfl hr4 hn2 (by have := HL3.out; omega) ?_; intro v5 w5 hown5 hbel5))
    go_ret2
    refine ⟨v5, rfl, ?_, HB2.out.bel.trans (hbel5.mono HB2.out.bel.size)⟩
    rw [List.length_append, cv_append]
    exact owns_le hown5 HB2.out.bel.size
  · have hR : encBR b = [] := by unfold encBR; rw [if_neg h]
    have hne : (chkB b != 0) = true := by rw [bne_iff_ne]; exact h
    rw [hR]
    generalize chkB b = c at *
    obtain ⟨base, span, prod, seq, rs⟩ := b
    simp only [bav] at *
    clear h hr ht
    go_enter Tryd.func14, Tryd.ntmps14
    go_wp2_with (go_at_call 17; refine (HK.out _ (RRow.below HR0.out (below_box _))).mono ?_; rintro e w1 ⟨rfl, hb1⟩; have HB1 : Hid (Below w.heap.size w w1) := (below_box _).trans (hb1.mono (by simp)))
    go_ret2
    exact ⟨_, rfl, World.ownsRow_nil _ _ _ _, HB1.out⟩
end Go.Proofs.YtgpeldmplkijlaaDoor
namespace Go.Proofs.YtgpeldmplkijlaaDoor
set_option linter.unusedSimpArgs false
set_option linter.unusedVariables false
open Go.RowKit
theorem rrow_new (w : World) (r : Rc) : RRow (w.alloc (.cells r.cells 58)) (some ⟨w.heap.size, 0, none⟩) [r] := by
  have hc : ∀ j, (w.alloc (.cells r.cells 58)).cell? ⟨w.heap.size, j, none⟩ = r.cells[j]? := fun j => cell_of_row _ w.heap.size j r.cells 58 (0, 0) (heap_alloc_new w _)
  intro i hi
  obtain rfl : i = 0 := by simpa using hi
  exact ⟨w.heap.size, 0, rfl, hc 0, hc 1, hc 2, hc 3, hc 4, hc 5⟩
theorem num_take (rs : List Rc) (k : Nat) (h : k < rs.length) : (numL rs.length rs).take (k + 1) = (numL rs.length rs).take k ++ [num (rs.getD k rz) k] := by
  rw [List.take_succ_eq_append_getElem (by rw [numL_len]; exact h)]
  simp [numL, h]
/-- The batch that grows. -/
structure RFS (w : World) (base sp prod seq : Int) (v : Value) (L : List Rc) (x : World) : Prop where
  own : x.ownsRow (w.heap.size + 2) 58 6 v L.length (rcv L)
  box : x.heap[w.heap.size + 1]? = some (.cells #[.int .i64 base, .int .i64 sp, .int .i64 prod, .int .i64 seq, v] 24 (0, 0))
  res : x.heap[w.heap.size]? = some (.cells #[.int .i64 0, .int .i64 0, .int .i64 0, .int .i64 0, .slice none 0 0] 24 (0, 0))
  bel : Below w.heap.size w x
theorem RFS.new (w : World) (base sp prod seq : Int) : RFS w base sp prod seq (.slice none 0 0) [] ((w.alloc (.cells #[.int .i64 0, .int .i64 0, .int .i64 0, .int .i64 0, .slice none 0 0] 24)).alloc (.cells #[.int .i64 base, .int .i64 sp, .int .i64 prod, .int .i64 seq, .slice none 0 0] 24)) := by
  have b1 : Below w.heap.size w (w.alloc (.cells #[.int .i64 0, .int .i64 0, .int .i64 0, .int .i64 0, .slice none 0 0] 24)) := below_box _
  refine ⟨World.ownsRow_nil _ _ _ _, ?_, ?_, b1.alloc b1.size _⟩
  · have := heap_alloc_new (w.alloc (.cells #[.int .i64 0, .int .i64 0, .int .i64 0, .int .i64 0, .slice none 0 0] 24)) (.cells #[.int .i64 base, .int .i64 sp, .int .i64 prod, .int .i64 seq, .slice none 0 0] 24)
    simpa using this
  · rw [(below_box (w := w.alloc (.cells #[.int .i64 0, .int .i64 0, .int .i64 0, .int .i64 0, .slice none 0 0] 24)) _).block w.heap.size (by simp)]
    exact heap_alloc_new w _
theorem RFS.below {w x y : World} {base sp prod seq : Int} {v : Value} {L : List Rc} (h : RFS w base sp prod seq v L x) (hb : Below x.heap.size x y) : RFS w base sp prod seq v L y :=
  ⟨owns_below h.own hb, (hb.block _ (Array.getElem?_eq_some_iff.1 h.box).1).trans h.box, (hb.block _ (Array.getElem?_eq_some_iff.1 h.res).1).trans h.res, h.bel.trans (hb.mono h.bel.size)⟩
theorem RFS.cells {w x : World} {base sp prod seq : Int} {v : Value} {L : List Rc} (h : RFS w base sp prod seq v L x) :
    x.cell? ⟨w.heap.size + 1, 0, none⟩ = some (.int .i64 base) ∧ x.cell? ⟨w.heap.size + 1, 1, none⟩ = some (.int .i64 sp) ∧ x.cell? ⟨w.heap.size + 1, 2, none⟩ = some (.int .i64 prod) ∧ x.cell? ⟨w.heap.size + 1, 3, none⟩ = some (.int .i64 seq) ∧ x.cell? ⟨w.heap.size + 1, 4, none⟩ = some v ∧ w.heap.size + 1 < x.heap.size ∧ ∀ i, x.frozen? ⟨w.heap.size + 1, i, none⟩ = false := by
  have hc : ∀ j, x.cell? ⟨w.heap.size + 1, j, none⟩ = _ := fun j => cell_of_row _ (w.heap.size + 1) j _ 24 (0, 0) h.box
  exact ⟨by rw [hc]; rfl, by rw [hc]; rfl, by rw [hc]; rfl, by rw [hc]; rfl, by rw [hc]; rfl, (Array.getElem?_eq_some_iff.1 h.box).1, fun i => by simp [World.frozen?, h.box]⟩
/-- Behind the append, and the store of the new row. -/
theorem RFS.grow {w x y : World} {base sp prod seq : Int} {v v' : Value} {L : List Rc} {r : Rc} (h : RFS w base sp prod seq v L x) (hb : Below (w.heap.size + 2) x y) (hown : y.ownsRow (w.heap.size + 2) 58 6 v' (L.length + 1) (rcv L ++ rcv [r])) : RFS w base sp prod seq v' (L ++ [r]) (y.setCell ⟨w.heap.size + 1, 4, none⟩ v') := by
  have hbx : y.heap[w.heap.size + 1]? = _ := (hb.block (w.heap.size + 1) (by omega)).trans h.box
  have ho : ∀ j, j ≠ w.heap.size + 1 → (y.setCell ⟨w.heap.size + 1, 4, none⟩ v').heap[j]? = y.heap[j]? := by
    intro j hj
    unfold World.setCell
    simp [Array.getElem?_modify, Ne.symm hj]
  refine ⟨?_, by rw [setCell_heap hbx]; rfl, by rw [ho _ (by omega), hb.block w.heap.size (by omega)]; exact h.res, (h.bel.trans (hb.mono (by omega))).setCell (p := ⟨w.heap.size + 1, 4, none⟩) (by show _ ≤ w.heap.size + 1; omega) _⟩
  rw [rcv_app, List.length_append]
  rcases hown.2 with ⟨e, e0⟩ | ⟨g, cap, cur, e, hB, hg, r⟩
  · omega
  · exact ⟨hown.1, .inr ⟨g, cap, cur, e, hB, by rw [ho _ (by omega)]; exact hg, r⟩⟩
theorem rfs_cell4 {w x y : World} {base sp prod seq : Int} {v : Value} {L : List Rc} (h : RFS w base sp prod seq v L x) (hb : Below (w.heap.size + 2) x y) : y.cell? ⟨w.heap.size + 1, 4, none⟩ = some v ∧ y.frozen? ⟨w.heap.size + 1, 4, none⟩ = false ∧ w.heap.size + 1 < y.heap.size := by
  obtain ⟨_, _, _, _, c4, cz, cf⟩ := RFS.cells h
  exact ⟨(hb.cell (p := ⟨w.heap.size + 1, 4, none⟩) (by show w.heap.size + 1 < _; omega)).trans c4, (hb.frozen (p := ⟨w.heap.size + 1, 4, none⟩) (by show w.heap.size + 1 < _; omega)).trans (cf 4), Nat.lt_of_lt_of_le cz hb.size⟩
theorem RRow.keep' {w : World} {a : Option Addr} {R : Nat} {rs : List Rc} {cs : Array Value} (h : RRow w a rs) (hg : ∀ g, a = some g → g.block ≠ R) : RRow (w.setRow R cs) a rs := by
  intro i hi
  obtain ⟨b, off, e, h0, h1, h2, h3, h4, h5⟩ := h i hi
  have hbM : b ≠ R := hg _ e
  exact ⟨b, off, e, (cell_setRow_ne hbM).trans h0, (cell_setRow_ne hbM).trans h1, (cell_setRow_ne hbM).trans h2, (cell_setRow_ne hbM).trans h3, (cell_setRow_ne hbM).trans h4, (cell_setRow_ne hbM).trans h5⟩
set_option maxHeartbeats 1600000 in
set_option maxRecDepth 100000 in
theorem rfresh_more (base prod seq : Int) (a : Option Addr) (cap : Nat) (rs : List Rc) (w : World) (hr : RRow w a rs) (hl : rs.length ≤ 1000) (hp : prod ≤ 9223372036854775807) (hs : seq ≤ 9223372036854775807) (hone : ¬ (rs.length : Int) < 1) :
    Calls Tryd.prog 24 #[.int .i64 base, .int .i64 prod, .int .i64 seq, .slice a rs.length cap] w fun e w' => ∃ a' c', e = .returned (.tuple #[bav (frR base prod seq rs) a' c', .int .i64 (chkB (frB base prod seq rs))]) ∧ RRow w' a' (frR base prod seq rs).rs ∧ (a' = none → c' = 0) ∧ Below w.heap.size w w' := by
  have hsp : max 1 (rs.length : Int) = (rs.length : Int) := by omega
  have HFB : Hid (frB base prod seq rs = ⟨base, (rs.length : Int), prod, seq, numL rs.length rs⟩) := by show _ = _; unfold frB; rw [hsp]
  have HCK : Hid (∀ x a' c', RRow x a' (numL rs.length rs) → Calls Tryd.prog 17 #[.agg #[.int .i64 base, .int .i64 (rs.length : Int), .int .i64 prod, .int .i64 seq, .slice a' rs.length c']] x fun e w' => e = .returned (.int .i64 (chkB (frB base prod seq rs))) ∧ Below x.heap.size x w') := by
    intro x a' c' h2
    have := rcheckB_any (frB base prod seq rs) a' c' x h2 ⟨hp, hs⟩ (by show (numL _ _).length ≤ _; rw [numL_len]; unfold maxLen; omega)
    rw [show bav (frB base prod seq rs) a' c' = .agg #[.int .i64 base, .int .i64 (rs.length : Int), .int .i64 prod, .int .i64 seq, .slice a' rs.length c'] by rw [HFB.out]; simp only [bav, numL_len]] at this
    exact this
  have HR0 : Hid (RRow w a rs) := hr
  have HFR : Hid (frR base prod seq rs = if chkB (frB base prod seq rs) = 0 then frB base prod seq rs else bz) := rfl
  generalize chkB (frB base prod seq rs) = ck at *
  generalize frR base prod seq rs = R at *
  rw [HFB.out] at HFR
  obtain ⟨F, HF⟩ : ∃ F : Nat → List Rc, Hid (∀ k, (numL rs.length rs).take k = F k) := ⟨_, fun _ => rfl⟩
  have HFs : Hid (∀ k, k < rs.length → F (k + 1) = F k ++ [num (rs.getD k rz) k]) := fun k hk => by rw [← HF.out, ← HF.out]; exact num_take rs k hk
  have HFl : Hid (∀ k, k ≤ rs.length → (F k).length = k) := fun k hk => by rw [← HF.out, List.length_take, numL_len]; omega
  have HFa : Hid (F rs.length = numL rs.length rs) := by show _ = _; rw [← HF.out, List.take_of_length_le (by rw [numL_len]; omega)]
  have HF0 : Hid (F 0 = []) := by show _ = _; rw [← HF.out]; rfl
  clear hr HFB hsp HF
  go_enter Tryd.func24, Tryd.ntmps24
  go_wp2_with fail
  go_loopw [11] (fun i x => ∃ (k : Nat) (v : Value), k ≤ rs.length ∧ i = .int .i64 k ∧ RFS w base (rs.length : Int) prod seq v (F k) x) (fun i _ => rs.length - (intOf i).toNat)
  case atStart => exact ⟨0, _, by omega, rfl, by rw [HF0.out]; exact RFS.new w base (rs.length : Int) prod seq⟩
  case round =>
    obtain ⟨k, v, hk, rfl, hS⟩ := hrel
    have hfk := HFl.out k hk
    obtain ⟨av', cv', rfl, hrv, hnv, hlv, hmv⟩ := owns_rrow hS.own
    obtain ⟨c0, c1, c2, c3, c4, cz, cf⟩ := RFS.cells hS
    by_cases hlt : k < rs.length
    · have hltI : (k : Int) < (rs.length : Int) := by omega
      have HFk : Hid (F (k + 1) = F k ++ [num (rs.getD k rz) k]) := HFs.out k hlt
      have HS : Hid (RFS w base (rs.length : Int) prod seq (.slice av' k cv') (F k) wr) := by have h2 := hS; rw [hfk] at h2; exact h2
      rw [hfk] at c4
      obtain ⟨b', off, rfl, z0, z1, z2, z3, z4, z5⟩ := (RRow.below HR0.out hS.bel) k hlt
      have hbz := World.block_lt_of_cell? _ _ z0
      simp only at hbz
      have hz2 : w.heap.size + 2 ≤ wr.heap.size := by omega
      clear hS hrv
      unfold num at HFk
      generalize rs.getD k rz = r at *
      obtain ⟨hk', kk, hv, v, t, o⟩ := r
      simp only at z0 z1 z2 z3 z4 z5 HFk
      have HRN : Hid (∀ o : Obj, RRow ((wr.alloc o).alloc (.cells #[.bool hk', .string kk, .bool hv, .string v, .int .i64 t, .int .i64 (k : Int)] 58)) (some ⟨wr.heap.size + 1, 0, none⟩) [⟨hk', kk, hv, v, t, (k : Int)⟩]) := fun o => by have h2 := rrow_new (wr.alloc o) ⟨hk', kk, hv, v, t, (k : Int)⟩; rw [show (wr.alloc o).heap.size = wr.heap.size + 1 by simp] at h2; exact h2
      have HT2 : Hid (∀ o1 o2, Below wr.heap.size wr ((wr.alloc o1).alloc o2)) := fun o1 o2 => (below_box o1).trans ((below_box o2).mono (by simp))
      go_wp2_with (at_builtin; refine wpList_append_recs (by rfl) _ _ rfl (w.heap.size + 2) _ _ _ _ rfl (RFS.below HS.out (HT2.out _ _)).own (Below.refl _ _) (by simp; omega) _ 1 [⟨hk', kk, hv, v, t, (k : Int)⟩] rfl (HRN.out _) (fun c => by cases c) (by simp; omega) ?_; intro v5 w5 hown5 hb5; have HG : Hid (RFS w base (rs.length : Int) prod seq v5 (F k ++ [⟨hk', kk, hv, v, t, (k : Int)⟩]) (w5.setCell ⟨w.heap.size + 1, 4, none⟩ v5)) := RFS.grow (RFS.below HS.out (HT2.out _ _)) hb5 hown5; clear c0 c1 c2 c3 c4 cz cf z0 z1 z2 z3 z4 z5; obtain ⟨y4, yf, yz⟩ := rfs_cell4 (RFS.below HS.out (HT2.out _ _)) hb5; obtain ⟨a5, k5, rfl, -⟩ := owns_rrow (rs := F k ++ [⟨hk', kk, hv, v, t, (k : Int)⟩]) (by rw [rcv_app, List.length_append]; exact hown5); clear hown5 hb5)
      exact ⟨⟨k + 1, _, by omega, by go_num, by rw [HFk.out]; have h2 := HG.out; rw [show (F k ++ [(⟨hk', kk, hv, v, t, (k : Int)⟩ : Rc)]).length = k + 1 by simp [hfk]] at h2; exact h2⟩, by simp [intOf]; omega⟩
    · obtain rfl : k = rs.length := by omega
      rw [hfk] at hS c4
      rw [HFa.out] at hS hrv
      have HS : Hid (RFS w base (rs.length : Int) prod seq (.slice av' rs.length cv') (numL rs.length rs) wr) := hS
      have HRR : Hid (RRow wr av' (numL rs.length rs)) := hrv
      clear hS hrv
      have hav : ∀ g, av' = some g → g.block ≠ w.heap.size := by
        intro g hg
        subst hg
        rcases HS.out.own.2 with ⟨e, _⟩ | ⟨g', cap', cur, e, hB, _⟩
        · cases e
        · injection e with e1
          injection e1 with e1
          rw [e1]
          show g' ≠ _
          omega
      have HAV : Hid _ := hav
      clear hav
      by_cases hck : ck = 0
      · subst hck
        have hRe : R = ⟨base, (rs.length : Int), prod, seq, numL rs.length rs⟩ := by rw [HFR.out, if_pos rfl]
        subst hRe
        go_wp2_with (first
          | (go_at_call 17; refine (HCK.out _ _ _ HRR.out).mono ?_; rintro e w3 ⟨rfl, hb3⟩; have HS3 : Hid (RFS w base (rs.length : Int) prod seq (.slice av' rs.length cv') (numL rs.length rs) w3) := RFS.below HS.out hb3; have HR3 : Hid (RRow w3 av' (numL rs.length rs)) := RRow.below HRR.out hb3; clear c0 c1 c2 c3 c4 cz cf hb3; obtain ⟨c0, c1, c2, c3, c4, cz, cf⟩ := RFS.cells HS3.out)
          | (have _t := HS3; refine wpList_store_row rfl 24 _ _ rfl w.heap.size #[.int .i64 base, .int .i64 (rs.length : Int), .int .i64 prod, .int .i64 seq, .slice av' rs.length cv'] rfl rfl 24 _ HS3.out.res Tryd.info24 rfl (bat_one _ _ _ _ _ _ _) ?_))
        refine bodyPost_ret (v := .tuple #[.agg #[.int .i64 base, .int .i64 (rs.length : Int), .int .i64 prod, .int .i64 seq, .slice av' rs.length cv'], .int .i64 0]) ?_ rfl ⟨av', cv', ?_, ?_, hnv, ?_⟩
        · exact results_bat (p := 8) (u := 9) (by rfl) _ _ w.heap.size _ _ (by rfl) (by rfl) rfl (setRow_heap _ _ _ _ _ _ HS3.out.res)
        · simp only [bav, numL_len]
        · exact RRow.keep' HR3.out HAV.out
        · exact below_setRow HS3.out.bel (Nat.le_refl _) _
      · have hck' : (ck != 0) = true := by rw [bne_iff_ne]; exact hck
        have hRe : R = bz := by rw [HFR.out, if_neg hck]
        subst hRe
        go_wp2_with (first
          | (go_at_call 17; refine (HCK.out _ _ _ HRR.out).mono ?_; rintro e w3 ⟨rfl, hb3⟩; have HS3 : Hid (RFS w base (rs.length : Int) prod seq (.slice av' rs.length cv') (numL rs.length rs) w3) := RFS.below HS.out hb3; clear c0 c1 c2 c3 c4 cz cf hb3; obtain ⟨c0, c1, c2, c3, c4, cz, cf⟩ := RFS.cells HS3.out)
          | (have _t := HS3; refine wpList_store_row rfl 24 _ _ rfl w.heap.size #[.int .i64 0, .int .i64 0, .int .i64 0, .int .i64 0, .slice none 0 0] rfl rfl 24 _ HS3.out.res Tryd.info24 rfl (bat_one _ _ _ _ _ _ _) ?_))
        refine bodyPost_ret (v := .tuple #[.agg #[.int .i64 0, .int .i64 0, .int .i64 0, .int .i64 0, .slice none 0 0], .int .i64 ck]) ?_ rfl ⟨none, 0, rfl, RRow.nil _ _, (fun _ => rfl), ?_⟩
        · exact results_bat (p := 8) (u := 9) (by rfl) _ _ w.heap.size _ _ (by rfl) (by rfl) rfl (setRow_heap _ _ _ _ _ _ HS3.out.res)
        · exact below_setRow HS3.out.bel (Nat.le_refl _) _
set_option maxHeartbeats 1600000 in
set_option maxRecDepth 100000 in
theorem rfresh_less (base prod seq : Int) (a : Option Addr) (cap : Nat) (rs : List Rc) (w : World) (hr : RRow w a rs) (hl : rs.length ≤ 1000) (hp : prod ≤ 9223372036854775807) (hs : seq ≤ 9223372036854775807) (hone : (rs.length : Int) < 1) :
    Calls Tryd.prog 24 #[.int .i64 base, .int .i64 prod, .int .i64 seq, .slice a rs.length cap] w fun e w' => ∃ a' c', e = .returned (.tuple #[bav (frR base prod seq rs) a' c', .int .i64 (chkB (frB base prod seq rs))]) ∧ RRow w' a' (frR base prod seq rs).rs ∧ (a' = none → c' = 0) ∧ Below w.heap.size w w' := by
  have hsp : max 1 (rs.length : Int) = 1 := by omega
  have HFB : Hid (frB base prod seq rs = ⟨base, 1, prod, seq, numL rs.length rs⟩) := by show _ = _; unfold frB; rw [hsp]
  have HCK : Hid (∀ x a' c', RRow x a' (numL rs.length rs) → Calls Tryd.prog 17 #[.agg #[.int .i64 base, .int .i64 1, .int .i64 prod, .int .i64 seq, .slice a' rs.length c']] x fun e w' => e = .returned (.int .i64 (chkB (frB base prod seq rs))) ∧ Below x.heap.size x w') := by
    intro x a' c' h2
    have := rcheckB_any (frB base prod seq rs) a' c' x h2 ⟨hp, hs⟩ (by show (numL _ _).length ≤ _; rw [numL_len]; unfold maxLen; omega)
    rw [show bav (frB base prod seq rs) a' c' = .agg #[.int .i64 base, .int .i64 1, .int .i64 prod, .int .i64 seq, .slice a' rs.length c'] by rw [HFB.out]; simp only [bav, numL_len]] at this
    exact this
  have HR0 : Hid (RRow w a rs) := hr
  have HFR : Hid (frR base prod seq rs = if chkB (frB base prod seq rs) = 0 then frB base prod seq rs else bz) := rfl
  generalize chkB (frB base prod seq rs) = ck at *
  generalize frR base prod seq rs = R at *
  rw [HFB.out] at HFR
  obtain ⟨F, HF⟩ : ∃ F : Nat → List Rc, Hid (∀ k, (numL rs.length rs).take k = F k) := ⟨_, fun _ => rfl⟩
  have HFs : Hid (∀ k, k < rs.length → F (k + 1) = F k ++ [num (rs.getD k rz) k]) := fun k hk => by rw [← HF.out, ← HF.out]; exact num_take rs k hk
  have HFl : Hid (∀ k, k ≤ rs.length → (F k).length = k) := fun k hk => by rw [← HF.out, List.length_take, numL_len]; omega
  have HFa : Hid (F rs.length = numL rs.length rs) := by show _ = _; rw [← HF.out, List.take_of_length_le (by rw [numL_len]; omega)]
  have HF0 : Hid (F 0 = []) := by show _ = _; rw [← HF.out]; rfl
  clear hr HFB hsp HF
  go_enter Tryd.func24, Tryd.ntmps24
  go_wp2_with fail
  go_loopw [11] (fun i x => ∃ (k : Nat) (v : Value), k ≤ rs.length ∧ i = .int .i64 k ∧ RFS w base 1 prod seq v (F k) x) (fun i _ => rs.length - (intOf i).toNat)
  case atStart => exact ⟨0, _, by omega, rfl, by rw [HF0.out]; exact RFS.new w base 1 prod seq⟩
  case round =>
    obtain ⟨k, v, hk, rfl, hS⟩ := hrel
    have hfk := HFl.out k hk
    obtain ⟨av', cv', rfl, hrv, hnv, hlv, hmv⟩ := owns_rrow hS.own
    obtain ⟨c0, c1, c2, c3, c4, cz, cf⟩ := RFS.cells hS
    by_cases hlt : k < rs.length
    · exfalso
      omega
    · obtain rfl : k = rs.length := by omega
      rw [hfk] at hS c4
      rw [HFa.out] at hS hrv
      have HS : Hid (RFS w base 1 prod seq (.slice av' rs.length cv') (numL rs.length rs) wr) := hS
      have HRR : Hid (RRow wr av' (numL rs.length rs)) := hrv
      clear hS hrv
      have hav : ∀ g, av' = some g → g.block ≠ w.heap.size := by
        intro g hg
        subst hg
        rcases HS.out.own.2 with ⟨e, _⟩ | ⟨g', cap', cur, e, hB, _⟩
        · cases e
        · injection e with e1
          injection e1 with e1
          rw [e1]
          show g' ≠ _
          omega
      have HAV : Hid _ := hav
      clear hav
      by_cases hck : ck = 0
      · subst hck
        have hRe : R = ⟨base, 1, prod, seq, numL rs.length rs⟩ := by rw [HFR.out, if_pos rfl]
        subst hRe
        go_wp2_with (first
          | (go_at_call 17; refine (HCK.out _ _ _ HRR.out).mono ?_; rintro e w3 ⟨rfl, hb3⟩; have HS3 : Hid (RFS w base 1 prod seq (.slice av' rs.length cv') (numL rs.length rs) w3) := RFS.below HS.out hb3; have HR3 : Hid (RRow w3 av' (numL rs.length rs)) := RRow.below HRR.out hb3; clear c0 c1 c2 c3 c4 cz cf hb3; obtain ⟨c0, c1, c2, c3, c4, cz, cf⟩ := RFS.cells HS3.out)
          | (have _t := HS3; refine wpList_store_row rfl 24 _ _ rfl w.heap.size #[.int .i64 base, .int .i64 1, .int .i64 prod, .int .i64 seq, .slice av' rs.length cv'] rfl rfl 24 _ HS3.out.res Tryd.info24 rfl (bat_one _ _ _ _ _ _ _) ?_))
        refine bodyPost_ret (v := .tuple #[.agg #[.int .i64 base, .int .i64 1, .int .i64 prod, .int .i64 seq, .slice av' rs.length cv'], .int .i64 0]) ?_ rfl ⟨av', cv', ?_, ?_, hnv, ?_⟩
        · exact results_bat (p := 8) (u := 9) (by rfl) _ _ w.heap.size _ _ (by rfl) (by rfl) rfl (setRow_heap _ _ _ _ _ _ HS3.out.res)
        · simp only [bav, numL_len]
        · exact RRow.keep' HR3.out HAV.out
        · exact below_setRow HS3.out.bel (Nat.le_refl _) _
      · have hck' : (ck != 0) = true := by rw [bne_iff_ne]; exact hck
        have hRe : R = bz := by rw [HFR.out, if_neg hck]
        subst hRe
        go_wp2_with (first
          | (go_at_call 17; refine (HCK.out _ _ _ HRR.out).mono ?_; rintro e w3 ⟨rfl, hb3⟩; have HS3 : Hid (RFS w base 1 prod seq (.slice av' rs.length cv') (numL rs.length rs) w3) := RFS.below HS.out hb3; clear c0 c1 c2 c3 c4 cz cf hb3; obtain ⟨c0, c1, c2, c3, c4, cz, cf⟩ := RFS.cells HS3.out)
          | (have _t := HS3; refine wpList_store_row rfl 24 _ _ rfl w.heap.size #[.int .i64 0, .int .i64 0, .int .i64 0, .int .i64 0, .slice none 0 0] rfl rfl 24 _ HS3.out.res Tryd.info24 rfl (bat_one _ _ _ _ _ _ _) ?_))
        refine bodyPost_ret (v := .tuple #[.agg #[.int .i64 0, .int .i64 0, .int .i64 0, .int .i64 0, .slice none 0 0], .int .i64 ck]) ?_ rfl ⟨none, 0, rfl, RRow.nil _ _, (fun _ => rfl), ?_⟩
        · exact results_bat (p := 8) (u := 9) (by rfl) _ _ w.heap.size _ _ (by rfl) (by rfl) rfl (setRow_heap _ _ _ _ _ _ HS3.out.res)
        · exact below_setRow HS3.out.bel (Nat.le_refl _) _
theorem rfresh_any (base prod seq : Int) (a : Option Addr) (cap : Nat) (rs : List Rc) (hl : rs.length ≤ 1000) (hp : prod ≤ 9223372036854775807) (hs : seq ≤ 9223372036854775807) : Frs 24 base prod seq a cap rs := fun w ht hr => by
  by_cases h1 : (rs.length : Int) < 1
  · exact rfresh_less base prod seq a cap rs w hr hl hp hs h1
  · exact rfresh_more base prod seq a cap rs w hr hl hp hs h1
end Go.Proofs.YtgpeldmplkijlaaDoor
namespace Go.Proofs.YtgpeldmplkijlaaDoor
set_option linter.unusedSimpArgs false
set_option linter.unusedVariables false
open Go.RowKit
def ra1 : Rc := ⟨false, ⟨#[]⟩, true, ⟨#[97]⟩, 0, 0⟩
def ba1 : Ba := ⟨7, 1, 0, 0, [ra1]⟩
theorem aw_b : frB 7 0 0 [ra1] = ba1 := by
  unfold frB ba1
  have h1 : max (1 : Int) (([ra1].length : Nat) : Int) = 1 := by decide
  have h2 : numL [ra1].length [ra1] = [ra1] := rfl
  rw [h1, h2]
theorem aw_c : chkB ba1 = 0 := by decide +kernel
theorem aw_r : frR 7 0 0 [ra1] = ba1 := by
  unfold frR
  rw [aw_b, if_pos aw_c]
theorem aw_l : (encBR ba1).length = 53 := by
  unfold encBR
  rw [if_pos aw_c, encB_len]
  decide +kernel
theorem aw_row (w : World) : RRow (w.alloc (.cells #[.bool false, .string ⟨#[]⟩, .bool true, .string ⟨#[97]⟩, .int .i64 0, .int .i64 0] 58)) (some ⟨w.heap.size, 0, none⟩) [ra1] := by
  have hc : ∀ j, (w.alloc (.cells ra1.cells 58)).cell? ⟨w.heap.size, j, none⟩ = ra1.cells[j]? := fun j => cell_of_row _ w.heap.size j ra1.cells 58 (0, 0) (heap_alloc_new w _)
  intro i hi
  obtain rfl : i = 0 := by simpa using hi
  exact ⟨w.heap.size, 0, rfl, hc 0, hc 1, hc 2, hc 3, hc 4, hc 5⟩
set_option maxHeartbeats 800000 in
set_option maxRecDepth 100000 in
theorem awake_any (w : World) (ht : Tab w) : Calls Tryd.prog 12 #[] w fun e w' => e = .returned (.bool true) ∧ Below w.heap.size w w' := by
  have HF : Hid (∀ x (a : Addr), Tab x → RRow x (some a) [ra1] → Calls Tryd.prog 23 #[.int .i64 7, .int .i64 0, .int .i64 0, .slice (some a) 1 1] x fun e w' => ∃ a' c', e = .returned (.tuple #[bav ba1 a' c', .int .i64 0]) ∧ RRow w' a' [ra1] ∧ (a' = none → c' = 0) ∧ Below x.heap.size x w') := by
    intro x a h1 h2
    have := fresh_any 7 0 0 (some a) 1 [ra1] (by simp) (fun c => by cases c) (by decide) (by decide) x h1 h2
    rw [aw_b, aw_r, aw_c] at this
    exact this
  have HE : Hid (∀ x a' c', Tab x → RRow x a' [ra1] → Calls Tryd.prog 13 #[bav ba1 a' c'] x fun e w' => ∃ v, e = .returned (.tuple #[v, .int .i64 0]) ∧ w'.ownsRow x.heap.size 5 1 v 53 (cv (encBR ba1)) ∧ Below x.heap.size x w') := by
    intro x a' c' h1 h2
    have := bencode_any ba1 a' c' ⟨by decide, by decide⟩ (by decide) x h1 h2
    rw [aw_c, aw_l] at this
    exact this
  have HLB : Hid (∀ i, (encBR ba1).getD i 0 < 256) := by
    unfold encBR
    rw [if_pos aw_c]
    exact lt_mem (encB_mem (chk_parts aw_c).1)
  have HLN : Hid ((encBR ba1).length = 53) := aw_l
  have HT : Hid (Tab w) := ht
  generalize encBR ba1 = L at *
  simp only [bav, ba1] at HF HE
  rw [show ([ra1] : List Rc).length = 1 from rfl] at HF HE
  clear ht
  go_enter Tryd.func12, Tryd.ntmps12
  go_wp2_with (first
    | (go_at_call 23; refine (HF.out _ _ (Tab.below HT.out (below_box _)) (aw_row w)).mono ?_; rintro e w1 ⟨a1, k1, rfl, hr1, hn1, hb1⟩; have HT1 : Hid (Tab w1) := Tab.below (Tab.below HT.out (below_box _)) hb1; have HR1 : Hid (RRow w1 a1 [ra1]) := hr1; have HB1 : Hid (Below w.heap.size w w1) := (below_box _).trans (hb1.mono (by simp)); clear hb1 hr1 hn1)
    | (go_at_call 13; refine (HE.out _ _ _ (Tab.below HT1.out (below_box _)) (RRow.below HR1.out (below_box _))).mono ?_; rintro e w2 ⟨v2, rfl, hown2, hb2⟩; rw [← HLN.out] at hown2; obtain ⟨a2, k2, rfl, _, _⟩ := owns_sl hown2 HLB.out; rw [HLN.out]; have HB2 : Hid (BxS w1 #[.int .i64 7, .int .i64 1, .int .i64 0, .int .i64 0, .slice a1 1 k1] w2) := BxS.below (BxS.new w1 _) hb2; obtain ⟨c0, c1, c2, c3, c4, cz⟩ := BxS.cells (b := ba1) HB2.out; simp only [ba1] at c0 c1 c2 c3 c4; clear hown2 hb2))
  go_ret
  exact ⟨rfl, HB1.out.trans (HB2.out.bel.mono HB1.out.size)⟩
end Go.Proofs.YtgpeldmplkijlaaDoor
namespace Go.Proofs.YtgpeldmplkijlaaDoor
set_option linter.unusedSimpArgs false
set_option linter.unusedVariables false
open Go.RowKit
/-- What comes in as a batch. -/
def BaOk (w : World) (b : Ba) (a : Option Addr) (cap : Nat) : Prop := RRow w a b.rs ∧ In64B b ∧ b.rs.length ≤ maxLen ∧ (a = none → cap = 0) ∧ ((Lit.int .i64 b.base).wf = true ∧ (Lit.int .i64 b.span).wf = true)
theorem encR_lt (b : Ba) : ∀ i, (encBR b).getD i 0 < 256 := by
  unfold encBR
  split
  · rename_i h
    exact lt_mem (encB_mem (chk_parts h).1)
  · intro i; simp
theorem encR_len (b : Ba) : (encBR b).length ≤ 6000 := by
  unfold encBR
  split
  · rename_i h
    have := (chk_parts h).2
    rw [encB_len]
    exact this
  · simp
set_option maxHeartbeats 1600000 in
set_option maxRecDepth 100000 in
theorem batchEncodes_walk (b : Ba) (a : Option Addr) (cap : Nat) (w : World) (ht : Tab w) (w0 : BaOk w b a cap) :
    Calls Tryd.prog 3 #[bav b a cap] w fun e w' => e = .returned (.bool true) ∧ Below w.heap.size w w' := by
  obtain ⟨hr, hi, hl, hn, _⟩ := w0
  have HSM : Hid (∀ x, RRow x a b.rs → Calls Tryd.prog 11 #[.slice a b.rs.length cap] x fun e w' => IsB b.rs.length e ∧ Below x.heap.size x w') := fun x hx => small_any a cap b.rs x hx hl
  have HE := bencode_any b a cap hi hl
  have HG := rencodeB_any b a cap hi hl
  unfold BEnc at HE HG
  have HE1 : Hid _ := HE
  have HG1 : Hid _ := HG
  clear HE HG
  have HC1 : Hid (∀ x, Tab x → RRow x a b.rs → Calls Tryd.prog 16 #[bav b a cap] x fun e w' => e = .returned (.int .i64 (chkB b)) ∧ Below x.heap.size x w') := fun x h1 h2 => bcheck_any b a cap x hi hl h1 h2
  have HC2 : Hid (∀ x, RRow x a b.rs → Calls Tryd.prog 17 #[bav b a cap] x fun e w' => e = .returned (.int .i64 (chkB b)) ∧ Below x.heap.size x w') := fun x h2 => rcheckB_any b a cap x h2 hi hl
  have HLB : Hid (∀ i, (encBR b).getD i 0 < 256) := encR_lt b
  have HLL : Hid ((encBR b).length ≤ maxLen) := by show _ ≤ _; have := encR_len b; unfold maxLen; omega
  have HA : Hid (∀ x, Tab x → Calls Tryd.prog 12 #[] x fun e w' => e = .returned (.bool true) ∧ Below x.heap.size x w') := fun x h => awake_any x h
  generalize encBR b = L at *
  generalize chkB b = c at *
  obtain ⟨base, span, prod, seq, rs⟩ := b
  simp only [bav] at *
  have HR0 : Hid (RRow w a rs) := hr
  have HT : Hid (Tab w) := ht
  have hB0 : BxS w (bcells ⟨base, span, prod, seq, rs⟩ a cap) (w.alloc (.cells #[.int .i64 base, .int .i64 span, .int .i64 prod, .int .i64 seq, .slice a rs.length cap] 24)) := BxS.new w _
  have HB0 : Hid _ := hB0
  clear hr ht hB0
  have HBY : Hid (∀ x p k q j, Row x p L → Row x q L → Calls Tryd.prog 15 #[.slice p L.length k, .slice q L.length j] x fun e w' => e = .returned (.bool true) ∧ ∃ n, w' = x.drewN n) := by
    intro x p k q j h1 h2
    have := bytes_any p k L q j L x h1 h2 HLL.out HLL.out
    rw [decide_eq_true rfl] at this
    exact this
  go_enter Tryd.func3, Tryd.ntmps3
  have HSS : Hid (∀ x, BxS w (bcells ⟨base, span, prod, seq, rs⟩ a cap) x → (fun y : World => y.cell? ⟨w.heap.size, 0, none⟩ = some (.int .i64 base) ∧ y.cell? ⟨w.heap.size, 1, none⟩ = some (.int .i64 span) ∧ y.cell? ⟨w.heap.size, 2, none⟩ = some (.int .i64 prod) ∧ y.cell? ⟨w.heap.size, 3, none⟩ = some (.int .i64 seq) ∧ y.cell? ⟨w.heap.size, 4, none⟩ = some (.slice a rs.length cap)) x) := by
    intro x h
    obtain ⟨c0, c1, c2, c3, c4, _⟩ := BxS.cells h
    exact ⟨c0, c1, c2, c3, c4⟩
  go_wp2_with (first
    | (go_at_call 11; refine (HSM.out _ (RRow.below HR0.out (below_box _))).mono ?_; rintro e w1 ⟨⟨sm, rfl, hsm⟩, hb1⟩; have HB1 : Hid (BxS w (bcells ⟨base, span, prod, seq, rs⟩ a cap) w1) := BxS.below HB0.out hb1; obtain ⟨c0, c1, c2, c3, c4, cz⟩ := BxS.cells HB1.out; simp only at c0 c1 c2 c3 c4; clear hb1 HB0)
    | (go_at_call 12; have _t := HB1; refine (HA.out _ (Tab.below HT.out HB1.out.bel)).mono ?_; rintro e w9 ⟨rfl, hb9⟩; have HB9 : Hid (Below w.heap.size w w9) := HB1.out.bel.trans (hb9.mono HB1.out.bel.size))
    | (go_at_call 13; refine (HE1.out _ (Tab.below HT.out HB1.out.bel) (RRow.below HR0.out HB1.out.bel)).mono ?_; rintro e w2 ⟨v2, rfl, hown2, hb2⟩; obtain ⟨a2, k2, rfl, hr2, _⟩ := owns_sl hown2 HLB.out; have HB2 : Hid (BxS w (bcells ⟨base, span, prod, seq, rs⟩ a cap) w2) := BxS.below HB1.out hb2; have HR2 : Hid (Row w2 a2 L) := hr2; clear c0 c1 c2 c3 c4 cz hown2 hb2 HB1 hr2; obtain ⟨c0, c1, c2, c3, c4, cz⟩ := BxS.cells HB2.out; simp only at c0 c1 c2 c3 c4)
    | (go_at_call 14; refine (HG1.out _ (Tab.below HT.out HB2.out.bel) (RRow.below HR0.out HB2.out.bel)).mono ?_; rintro e w3 ⟨v3, rfl, hown3, hb3⟩; obtain ⟨a3, k3, rfl, hr3, _⟩ := owns_sl hown3 HLB.out; have HB3 : Hid (BxS w (bcells ⟨base, span, prod, seq, rs⟩ a cap) w3) := BxS.below HB2.out hb3; have HR2b : Hid (Row w3 a2 L) := Row.below HR2.out hb3; have HR3 : Hid (Row w3 a3 L) := hr3; clear c0 c1 c2 c3 c4 cz hown3 hb3 HB2 hr3 HR2; obtain ⟨c0, c1, c2, c3, c4, cz⟩ := BxS.cells HB3.out; simp only at c0 c1 c2 c3 c4))
  · go_ret
    exact ⟨rfl, HB9.out⟩
  · have hcc : (c == c) = true := by simp
    have hS0 := HSS.out _ HB3.out
    clear c0 c1 c2 c3 c4 cz
    go_region_held3 (fun y : World => y.cell? ⟨w.heap.size, 0, none⟩ = some (.int .i64 base) ∧ y.cell? ⟨w.heap.size, 1, none⟩ = some (.int .i64 span) ∧ y.cell? ⟨w.heap.size, 2, none⟩ = some (.int .i64 prod) ∧ y.cell? ⟨w.heap.size, 3, none⟩ = some (.int .i64 seq) ∧ y.cell? ⟨w.heap.size, 4, none⟩ = some (.slice a rs.length cap)) (first | exact hS7 | exact hS6 | exact hS5 | exact hS4 | exact hS0)
      ((first
        | (go_at_call 15; refine (HBY.out _ _ _ _ _ (Row.below HR2b.out (Below.refl _ _).drew) (Row.below HR3.out (Below.refl _ _).drew)).mono ?_; rintro e w4 ⟨rfl, n4, hw4⟩; have HB4 : Hid (BxS w (bcells ⟨base, span, prod, seq, rs⟩ a cap) w4) := (by rw [hw4]; exact BxS.below HB3.out (below_drewN (Below.refl _ _).drew _)); have hS4 := HSS.out _ HB4.out; clear hw4)
        | (go_at_call 16; refine (HC1.out _ (Tab.below HT.out HB4.out.bel) (RRow.below HR0.out HB4.out.bel)).mono ?_; rintro e w5 ⟨rfl, hb5⟩; have HB5 : Hid (BxS w (bcells ⟨base, span, prod, seq, rs⟩ a cap) w5) := BxS.below HB4.out hb5; have hS5 := HSS.out _ HB5.out; clear hb5)
        | (go_at_call 17; refine (HC2.out _ (RRow.below HR0.out HB5.out.bel)).mono ?_; rintro e w6 ⟨rfl, hb6⟩; have HB6 : Hid (BxS w (bcells ⟨base, span, prod, seq, rs⟩ a cap) w6) := BxS.below HB5.out hb6; have hS6 := HSS.out _ HB6.out; clear hb6)
        | (go_at_call 12; refine (HA.out _ (Tab.below HT.out HB6.out.bel)).mono ?_; rintro e w7 ⟨rfl, hb7⟩; have hS7 := HSS.out _ (BxS.below HB6.out hb7); have HB7 : Hid (Below w.heap.size w w7) := HB6.out.bel.trans (hb7.mono HB6.out.bel.size))))
    all_goals go_wp2
    all_goals go_ret
    all_goals exact ⟨rfl, HB7.out⟩
end Go.Proofs.YtgpeldmplkijlaaDoor
namespace Go.Proofs.YtgpeldmplkijlaaDoor
set_option linter.unusedSimpArgs false
set_option linter.unusedVariables false
open Go.RowKit Go.ChangeShapes Go.WideShapes Go.ChangeAt
theorem cells22 : Tryd.prog.cellsOf 22 = 1 := by kernel_rfl
theorem cells24 : Tryd.prog.cellsOf 24 = 5 := by kernel_rfl
theorem list_of {α : Type} (dflt : α) (R : Nat → α → Prop) (L : Nat) (h : ∀ i, i < L → ∃ a, R i a) : ∃ l : List α, l.length = L ∧ ∀ i, i < L → R i (l.getD i dflt) := by
  induction L with
  | zero => exact ⟨[], rfl, fun i hi => by omega⟩
  | succ L ih =>
    obtain ⟨l, hl, hr⟩ := ih (fun i hi => h i (by omega))
    obtain ⟨a, ha⟩ := h L (by omega)
    refine ⟨l ++ [a], by simp [hl], fun i hi => ?_⟩
    by_cases e : i < L
    · have : (l ++ [a]).getD i dflt = l.getD i dflt := by simp [List.getD, List.getElem?_append, show i < l.length by omega]
      rw [this]; exact hr i e
    · obtain rfl : i = L := by omega
      have : (l ++ [a]).getD i dflt = a := by simp [List.getD, ← hl]
      rw [this]; exact ha
set_option maxRecDepth 100000 in
theorem recs_of {H : Type} {enc : TypeId × Value → H} {W : World} {base fuel : Nat} {sp : Nat → Bool} {held : Bool} {a0 : Option Addr} {L cap0 : Nat} {x : DataW H × List MemPlace}
    (h : DataW.trod enc Tryd.prog W base sp held fuel 22 [.slice a0 L cap0] = some x) : ∃ rs : List Rc, L = rs.length ∧ RRow W a0 rs ∧ rs.length ≤ maxLen ∧ (a0 = none → cap0 = 0) := by
  rcases Go.Deep.open_slice Tryd.underlying22 h with ⟨hcs, _⟩ | ⟨ad, len, cap, m, n, D, Pl, hcs, _, hl, hm, hmm, _, hx⟩
  · simp at hcs
    obtain ⟨rfl, rfl, rfl⟩ := hcs
    exact ⟨[], rfl, RRow.nil _ _, by simp, fun _ => rfl⟩
  · simp at hcs
    obtain ⟨rfl, rfl, rfl⟩ := hcs
    have hlm : L ≤ m := by rw [hmm]; split <;> omega
    have each : ∀ i, i < L → ∃ r : Rc, ∃ b off, some ad = some ⟨b, off, none⟩ ∧ W.cell? ⟨b, off + i * 6, none⟩ = some (.bool r.hk) ∧ W.cell? ⟨b, off + i * 6 + 1, none⟩ = some (.string r.k) ∧ W.cell? ⟨b, off + i * 6 + 2, none⟩ = some (.bool r.hv) ∧ W.cell? ⟨b, off + i * 6 + 3, none⟩ = some (.string r.v) ∧ W.cell? ⟨b, off + i * 6 + 4, none⟩ = some (.int .i64 r.t) ∧ W.cell? ⟨b, off + i * 6 + 5, none⟩ = some (.int .i64 r.o) := by
      intro i hi
      have hsp : ad.spot = none := by
        obtain ⟨cs0, h10, _⟩ := hx 0 (by omega)
        rw [cells58] at h10
        obtain ⟨_, hlen0, hcell0⟩ := World.cells?_some h10
        have e := hcell0 0 (by omega)
        rw [List.getElem?_eq_getElem (by omega)] at e
        simpa [Addr.add] using World.cell?_spot e
      obtain ⟨b, off, spot⟩ := ad
      simp only at hsp
      subst hsp
      obtain ⟨cs', h1, h2⟩ := hx i (by omega)
      rw [cells58] at h1
      obtain ⟨_, hlen, hcell⟩ := World.cells?_some h1
      obtain ⟨xs, k, hk, hxy, _, hxl, hf⟩ := DataW.trod_struct Tryd.underlying58 h2
      match xs, hxl, cs', hlen with
      | [y0, y1, y2, y3, y4, y5], _, [v0, v1, v2, v3, v4, v5], _ =>
        have g0 := hf 0 _ rfl
        have g1 := hf 1 _ rfl
        have g2 := hf 2 _ rfl
        have g3 := hf 3 _ rfl
        have g4 := hf 4 _ rfl
        have g5 := hf 5 _ rfl
        simp [cells3, cells4, cells9] at g0 g1 g2 g3 g4 g5
        have e0 := hcell 0 (by omega)
        have e1 := hcell 1 (by omega)
        have e2 := hcell 2 (by omega)
        have e3 := hcell 3 (by omega)
        have e4 := hcell 4 (by omega)
        have e5 := hcell 5 (by omega)
        obtain ⟨n0, q0, _⟩ := DataW.trod_bool Tryd.underlying4 g0
        obtain ⟨n1, q1, _, w1⟩ := DataW.trod_string Tryd.underlying9 g1
        obtain ⟨n2, q2, _⟩ := DataW.trod_bool Tryd.underlying4 g2
        obtain ⟨n3, q3, _, w3⟩ := DataW.trod_string Tryd.underlying9 g3
        obtain ⟨n4, q4, _, w4⟩ := DataW.trod_int Tryd.underlying3 g4
        obtain ⟨n5, q5, _, w5⟩ := DataW.trod_int Tryd.underlying3 g5
        simp at q0 q1 q2 q3 q4 q5
        subst q0; subst q1; subst q2; subst q3; subst q4; subst q5
        rw [Addr.add_lit, Addr.add_lit] at e0 e1 e2 e3 e4 e5
        simp at e0 e1 e2 e3 e4 e5
        exact ⟨⟨n0, n1, n2, n3, n4, n5⟩, b, off, rfl, e0, e1, e2, e3, e4, e5⟩
    obtain ⟨l, hll, hr⟩ := list_of rz _ L each
    exact ⟨l, hll.symm, fun i hi => by rw [hll] at hi; exact hr i hi, by omega, fun c => by cases c⟩
theorem array5 {α : Type} {cs : Array α} (h : cs.size = 5) : ∃ c0 c1 c2 c3 c4, cs = #[c0, c1, c2, c3, c4] := by
  obtain ⟨l⟩ := cs
  match l, h with
  | [c0, c1, c2, c3, c4], _ => exact ⟨c0, c1, c2, c3, c4, rfl⟩
set_option maxRecDepth 100000 in
theorem bat_of {H : Type} {enc : TypeId × Value → H} {W : World} {r : Reach} {base b0 : Nat} {sp : Nat → Bool} {held : Bool} {v : Value} {d : DataW H} {p : List MemPlace}
    (hv : Value.okWide Tryd.prog W r b0 24 v) (h : DataW.Trod enc Tryd.prog W base sp held 24 v d p) : ∃ (b : Ba) (a : Option Addr) (cap : Nat), v = bav b a cap ∧ BaOk W b a cap := by
  obtain ⟨cs, rfl, hsz⟩ := okWide_struct Tryd.underlying24 hv
  obtain ⟨c0, c1, c2, c3, c4, rfl⟩ := array5 (hsz.trans cells24)
  obtain ⟨fuel, hf⟩ := h
  obtain ⟨xs, k, hk, hxy, _, hxl, hg⟩ := DataW.trod_struct Tryd.underlying24 hf
  match xs, hxl with
  | [y0, y1, y2, y3, y4], _ =>
    have g0 := hg 0 _ rfl
    have g1 := hg 1 _ rfl
    have g2 := hg 2 _ rfl
    have g3 := hg 3 _ rfl
    have g4 := hg 4 _ rfl
    simp [cells3, cells22, Value.cells] at g0 g1 g2 g3 g4
    obtain ⟨n0, q0, _, w0⟩ := DataW.trod_int Tryd.underlying3 g0
    obtain ⟨n1, q1, _, w1⟩ := DataW.trod_int Tryd.underlying3 g1
    obtain ⟨n2, q2, _, w2⟩ := DataW.trod_int Tryd.underlying3 g2
    obtain ⟨n3, q3, _, w3⟩ := DataW.trod_int Tryd.underlying3 g3
    simp at q0 q1 q2 q3
    subst q0; subst q1; subst q2; subst q3
    obtain ⟨a1, l1, k1, rfl⟩ : ∃ a1 l1 c1, c4 = .slice a1 l1 c1 := by
      rcases Go.Deep.open_slice Tryd.underlying22 g4 with ⟨hcs, _⟩ | ⟨ad, len, cap, m, n, D, Pl, hcs, _⟩
      · simp at hcs; exact ⟨_, _, _, hcs⟩
      · simp at hcs; exact ⟨_, _, _, hcs⟩
    obtain ⟨rs, rfl, hr, hl, hn⟩ := recs_of g4
    exact ⟨⟨n0, n1, n2, n3, rs⟩, a1, k1, rfl, hr, ⟨(bd64 w2).2, (bd64 w3).2⟩, hl, hn, w0, w1⟩
end Go.Proofs.YtgpeldmplkijlaaDoor
namespace Go.Proofs.YtgpeldmplkijlaaDoor
set_option linter.unusedSimpArgs false
set_option linter.unusedVariables false
open Go.RowKit
theorem run_slice_to (w : World) (ad : Addr) (len cap n : Nat) (h : n ≤ cap) (h0 : n ≤ len) : (Instr.slice 27 (.slice (some ad) len cap) none (some (.int .i64 (n : Int))) none).run Tryd.prog w = .ok (.slice (some ad) n cap) w := by
  have hs : (sizeOf 5).run Tryd.prog w = .ok 1 w := by
    obtain ⟨i, hi, e⟩ := Option.map_eq_some_iff.1 Tryd.info5s
    simp [sizeOf, typeInfo, hi, e]
  have h3 : (0 : Int) ≤ (n : Int) ∧ (n : Int) ≤ (cap : Int) := by omega
  simp [Instr.slice, run_underlying Tryd.underlying27, Instr.sliceBounds, Instr.sliceBound, asIntOf, h3, hs]
  first | omega | (rw [if_pos h]; simp [Addr.add]) | simp [h, Addr.add]
theorem getV_set (l : List Nat) (i c p n : Nat) (h : i < p ∨ p + n ≤ i) : getV (l.set i c) p n true = getV l p n true := by
  unfold getV
  apply sm_congr
  intro j hj
  simp only [plc, if_true, List.getD]
  rw [List.getElem?_set_ne (by omega)]
theorem enc_len_of {b : Ba} (h : chkB b = 0) (hi : In64B b) : getV (encBL b) 8 4 true = (tailL b).length + 4 ∧ getV (encBL b) 12 4 true = P.sum (tailL b) := by
  have := nums_of (b := b) [] (chk_parts h).1 hi
  rw [List.append_nil] at this
  exact ⟨this.len, this.sum⟩
theorem len_enc (b : Ba) : (encBL b).length = 12 + ((tailL b).length + 4) := by
  have h1 := encB_len b
  have h2 := tail_len b
  omega
theorem okB_cut {b : Ba} {k : Nat} (h : chkB b = 0) (hi : In64B b) (hk : k < (encBL b).length) : ¬ OkB ((encBL b).take k) := by
  intro hq
  have h48 := hq.l48
  have hnl := hq.nl
  rw [List.length_take] at h48 hnl
  have e1 := (enc_len_of h hi).1
  have e2 := getV_take (encBL b) 8 4 k (by omega)
  have e3 := len_enc b
  have e4 : lenN ((encBL b).take k) = (encBL b).length := by
    unfold lenN
    rw [e2, e1, e3]
  rw [e4] at hnl
  omega
theorem zip_flip (l : List Nat) (j d : Nat) (hj : j < l.length) : List.zipWith (· ^^^ ·) l (List.replicate j 0 ++ [d] ++ List.replicate (l.length - j - 1) 0) = l.set j (l.getD j 0 ^^^ d) := by
  apply List.ext_getElem
  · simp; omega
  · intro i h1 h2
    have h3 : i < l.length := by rw [List.length_set] at h2; exact h2
    simp only [List.getElem_zipWith, List.getElem_set]
    by_cases hi : j = i
    · subst hi
      rw [if_pos rfl]
      have : (List.replicate j 0 ++ [d] ++ List.replicate (l.length - j - 1) 0)[j]? = some d := by
        rw [List.append_assoc, List.getElem?_append_right (by simp)]
        simp
      have e := (List.getElem?_eq_some_iff.1 this).2
      rw [e]
      simp [List.getD, hj]
    · rw [if_neg hi]
      have : (List.replicate j 0 ++ [d] ++ List.replicate (l.length - j - 1) 0)[i]? = some 0 := by
        rcases Nat.lt_or_ge i j with hlt | hge
        · rw [List.append_assoc, List.getElem?_append_left (by simp; exact hlt)]
          simp [hlt]
        · have hle : (List.replicate j 0 ++ [d]).length = j + 1 := by simp
          rw [List.getElem?_append_right (by rw [hle]; omega), hle, List.getElem?_replicate, if_pos (by omega)]
      have e := (List.getElem?_eq_some_iff.1 this).2
      rw [e]
      simp
theorem sum_flip (l : List Nat) (j d : Nat) (hj : j < l.length) (hd : 0 < d) (hd2 : d < 256) : P.sum (l.set j (l.getD j 0 ^^^ d)) ≠ P.sum l := by
  intro c
  rw [← zip_flip l j d hj, P.sum_diff _ _ (by simp; omega)] at c
  have h0 := (P.xor_zero_iff _ _).1 c
  have := P.burst j (l.length - j - 1) [d] (by intro x hx; simp at hx; omega) (by simp) h0 d (by simp)
  omega
theorem okB_flip {b : Ba} {i d : Nat} (h : chkB b = 0) (hi : In64B b) (h16 : 16 ≤ i) (hl : i < (encBL b).length) (hd : 0 < d) (hd2 : d < 256) : ¬ OkB ((encBL b).set i ((encBL b).getD i 0 ^^^ d)) := by
  intro hq
  have hs := hq.sum
  have e1 := (enc_len_of h hi).1
  have e0 := (enc_len_of h hi).2
  have e2 := getV_set (encBL b) i ((encBL b).getD i 0 ^^^ d) 8 4 (by omega)
  have e3 := len_enc b
  have e4 : lenN ((encBL b).set i ((encBL b).getD i 0 ^^^ d)) = (encBL b).length := by
    unfold lenN
    rw [e2, e1, e3]
  have ht : (encBL b).drop 16 = tailL b := by
    unfold encBL
    exact List.drop_left' (head_len _ _ _)
  rw [e4, getV_set _ _ _ 12 4 (by omega), e0, List.take_of_length_le (by rw [List.length_set]; omega), List.drop_set] at hs
  rw [if_neg (by omega), ht] at hs
  have hg : (encBL b).getD i 0 = (tailL b).getD (i - 16) 0 := by
    rw [← ht]
    simp only [List.getD, List.getElem?_drop]
    rw [show 16 + (i - 16) = i by omega]
  rw [hg] at hs
  exact sum_flip (tailL b) (i - 16) d (by omega) hd hd2 hs
end Go.Proofs.YtgpeldmplkijlaaDoor
namespace Go.Proofs.YtgpeldmplkijlaaDoor
set_option linter.unusedSimpArgs false
set_option linter.unusedVariables false
open Go.RowKit
/-- Bytes with another Base. -/
def movedL (l : List Nat) (z : Nat) : List Nat := putL (l.take 48) 0 8 true z ++ l.drop 48
theorem movedL_len (l : List Nat) (z : Nat) : (movedL l z).length = l.length := by
  unfold movedL
  rw [List.length_append, putL_length, List.length_take, List.length_drop]
  omega
theorem range_below {w w' : World} {b o : Nat} {cs : List Value} (h : w.rangeAt b o cs) (hb : Below w.heap.size w w') : w'.rangeAt b o cs := fun j v hj => by
  have h1 := h j v hj
  exact (hb.cell (World.block_lt_of_cell? _ _ h1)).trans h1
set_option maxHeartbeats 1600000 in
set_option maxRecDepth 100000 in
theorem move_ok (a : Option Addr) (cap : Nat) (l : List Nat) (z : Nat) (w : World) (ht : Tab w) (hr : Row w a l) (hl : l.length ≤ cap) (hc : cap ≤ maxLen) (hl2 : l.length ≤ 100000) (hok : OkB l) (hn : lenN l = l.length) (hz : z ≤ 1125899906842624) :
    Calls Tryd.prog 21 #[.slice a l.length cap, .int .i64 (z : Int)] w fun e w' => ∃ g, e = .returned (.tuple #[.slice (some ⟨g, 0, none⟩) (movedL l z).length (movedL l z).length, .int .i64 0]) ∧ Own w.heap.size w' g (movedL l z).length (movedL l z) ∧ Below w.heap.size w w' := by
  have h48 := hok.l48
  obtain ⟨pb, poff, rfl, hc0, _⟩ := hr 0 (by omega)
  have hpb : pb < w.heap.size := by have := World.block_lt_of_cell? _ _ hc0; simpa using this
  clear hc0
  have HD : Hid (∀ x, Tab x → Row x (some ⟨pb, poff, none⟩) l → Calls Tryd.prog 18 #[.slice (some ⟨pb, poff, none⟩) l.length cap] x fun e w' => ∃ a' c', e = .returned (.tuple #[bav (bOf l) a' c', .int .i64 (l.length : Int), .int .i64 0]) ∧ Below x.heap.size x w') := by
    intro x h1 h2
    refine (bdecode_any _ cap l x h1 h2 hl hc hl2).mono ?_
    rintro e w' ⟨q, _, hb⟩
    obtain ⟨a', c', rfl, _⟩ := q hok
    exact ⟨a', c', by rw [hn], hb⟩
  have HB : Hid (∀ x, Calls Tryd.prog 43 #[.int .i64 (z : Int)] x fun e w' => e = .returned (.bool true) ∧ w' = x) := by
    intro x
    have h2 := isBase_any (z : Int) x
    rw [show baseB (z : Int) = true by unfold baseB; exact decide_eq_true (by omega)] at h2
    exact h2
  obtain ⟨h, HHD⟩ : ∃ h, Hid (l.take 48 = h) := ⟨_, rfl⟩
  have hh48 : h.length = 48 := by rw [← HHD.out, List.length_take]; omega
  have hhm : ∀ i, h.getD i 0 < 256 := by rw [← HHD.out]; exact lt_mem (fun x hx => mem_lt (fun i => hr.lt i) x (List.mem_of_mem_take hx))
  have HRG : Hid (∀ y, Below w.heap.size w y → y.rangeAt pb poff (cv h)) := fun y hb => by rw [← HHD.out]; exact row_range (hr.below hb) 48
  have HIC : Hid ((Tryd.prog.info? 62).map (·.size) = some (cv h).length) := by show _ = _; rw [cv_length, hh48]; exact Tryd.info62
  have HW : Hid (∀ x, Calls Tryd.prog 29 #[.agg (cv h).toArray, .int .i64 0, .int .i64 8, .int .i64 (z : Int)] x fun e w' => e = .returned (.agg (cv (putL h 0 8 true z)).toArray) ∧ Below x.heap.size x w') := fun x => with_in h 0 8 z x hh48 hhm (by decide) (by decide) (by decide) (by omega)
  have h2len : (putL h 0 8 true z).length = 48 := by rw [putL_length, hh48]
  have HIC2 : Hid ((Tryd.prog.info? 62).map (·.size) = some (cv (putL h 0 8 true z)).length) := by show _ = _; rw [cv_length, h2len]; exact Tryd.info62
  have HSZ2 : Hid ((cv (putL h 0 8 true z)).toArray.size = 48) := arr_size (by rw [cv_length, h2len])
  have HLL : Hid ((l.drop 48).length = l.length - 48) := by show _ = _; rw [List.length_drop]
  have HJ : Hid (∀ y, Below w.heap.size w y → Calls Tryd.prog 32 #[.agg (cv (putL h 0 8 true z)).toArray, .slice (cutA (some ⟨pb, poff, none⟩) cap 48) (l.length - 48) (cap - 48)] y fun e w' => ∃ g, e = .returned (.slice (some ⟨g, 0, none⟩) (movedL l z).length (movedL l z).length) ∧ Own y.heap.size w' g (movedL l z).length (movedL l z) ∧ Below y.heap.size y w') := by
    intro y hb
    have h3 := bjoin_any (putL h 0 8 true z) (cutA (some ⟨pb, poff, none⟩) cap 48) (cap - 48) (l.drop 48) y h2len (putL_lt h 0 8 true z hhm) (row_cut cap 48 (hr.below hb) hl) (by rw [HLL.out]; omega)
    rw [HLL.out] at h3
    unfold movedL
    rw [HHD.out]
    exact h3
  generalize movedL l z = M at *
  generalize putL h 0 8 true z = h2 at *
  have ks0 := fun y => run_slice_head y ⟨pb, poff, none⟩ l.length cap (by omega)
  have ka := fun y => run_arrayAt y ⟨pb, poff, none⟩ cap
  have ks2 : ∀ y, (Instr.slice 27 (.slice (some ⟨pb, poff, none⟩) l.length cap) (some (.int .i64 48)) none none).run Tryd.prog y = .ok (.slice (cutA (some ⟨pb, poff, none⟩) cap 48) (l.length - 48) (cap - 48)) y := fun y => run_slice_from y _ l.length cap 48 .i64 (by omega)
  have HROW : Hid (Row w (some ⟨pb, poff, none⟩) l) := hr
  have HT : Hid (Tab w) := ht
  generalize bOf l = B at HD
  obtain ⟨c0, c1, c2, c3, rs⟩ := B
  simp only [bav] at HD
  clear hr ht hok hn hhm hh48 h2len hz
  go_enter Tryd.func21, Tryd.ntmps21
  go_wp2_with (first
    | (go_at_call 18; refine (HD.out _ HT.out HROW.out).mono ?_; rintro e w1 ⟨a1, k1, rfl, hb1⟩; have HB1 : Hid (Below w.heap.size w w1) := hb1; clear hb1)
    | (go_at_call 43; refine (HB.out _).mono ?_; rintro e w2 ⟨rfl, hw⟩; subst w2)
    | (have _t := HB1; refine wpList_load_mid rfl 62 _ rfl pb poff rfl (cv h) _ (HRG.out _ (HB1.out.alloc HB1.out.size _)) Tryd.underlying62 rfl HIC.out ?_)
    | (go_at_call 29; refine (HW.out _).mono ?_; rintro e w3 ⟨rfl, hb3⟩; have HB3 : Hid (Below w.heap.size w w3) := (HB1.out.alloc HB1.out.size _).trans (hb3.mono (by have := HB1.out.size; simp; omega)); clear hb3 HB1)
    | (have _t := HB3; refine wpList_store_row rfl 62 _ _ rfl w3.heap.size (cv h2).toArray rfl rfl 62 #[.int .u8 0, .int .u8 0, .int .u8 0, .int .u8 0, .int .u8 0, .int .u8 0, .int .u8 0, .int .u8 0, .int .u8 0, .int .u8 0, .int .u8 0, .int .u8 0, .int .u8 0, .int .u8 0, .int .u8 0, .int .u8 0, .int .u8 0, .int .u8 0, .int .u8 0, .int .u8 0, .int .u8 0, .int .u8 0, .int .u8 0, .int .u8 0, .int .u8 0, .int .u8 0, .int .u8 0, .int .u8 0, .int .u8 0, .int .u8 0, .int .u8 0, .int .u8 0, .int .u8 0, .int .u8 0, .int .u8 0, .int .u8 0, .int .u8 0, .int .u8 0, .int .u8 0, .int .u8 0, .int .u8 0, .int .u8 0, .int .u8 0, .int .u8 0, .int .u8 0, .int .u8 0, .int .u8 0, .int .u8 0] (heap_alloc_new w3 _) (by rw [HSZ2.out]; exact Tryd.info62) (by rw [HSZ2.out]; rfl) (arr_one h2) ?_))
  have HZR : Hid (((w3.alloc (.cells #[.int .u8 0, .int .u8 0, .int .u8 0, .int .u8 0, .int .u8 0, .int .u8 0, .int .u8 0, .int .u8 0, .int .u8 0, .int .u8 0, .int .u8 0, .int .u8 0, .int .u8 0, .int .u8 0, .int .u8 0, .int .u8 0, .int .u8 0, .int .u8 0, .int .u8 0, .int .u8 0, .int .u8 0, .int .u8 0, .int .u8 0, .int .u8 0, .int .u8 0, .int .u8 0, .int .u8 0, .int .u8 0, .int .u8 0, .int .u8 0, .int .u8 0, .int .u8 0, .int .u8 0, .int .u8 0, .int .u8 0, .int .u8 0, .int .u8 0, .int .u8 0, .int .u8 0, .int .u8 0, .int .u8 0, .int .u8 0, .int .u8 0, .int .u8 0, .int .u8 0, .int .u8 0, .int .u8 0, .int .u8 0] 62)).setRow w3.heap.size (cv h2).toArray).rangeAt w3.heap.size 0 (cv h2)) := by
    intro j v hj
    rw [cell_of_row _ w3.heap.size (0 + j) (cv h2).toArray 62 (0, 0) (setRow_heap _ _ _ _ _ _ (heap_alloc_new w3 _))]
    simpa using hj
  have HZB : Hid (Below w.heap.size w ((w3.alloc (.cells #[.int .u8 0, .int .u8 0, .int .u8 0, .int .u8 0, .int .u8 0, .int .u8 0, .int .u8 0, .int .u8 0, .int .u8 0, .int .u8 0, .int .u8 0, .int .u8 0, .int .u8 0, .int .u8 0, .int .u8 0, .int .u8 0, .int .u8 0, .int .u8 0, .int .u8 0, .int .u8 0, .int .u8 0, .int .u8 0, .int .u8 0, .int .u8 0, .int .u8 0, .int .u8 0, .int .u8 0, .int .u8 0, .int .u8 0, .int .u8 0, .int .u8 0, .int .u8 0, .int .u8 0, .int .u8 0, .int .u8 0, .int .u8 0, .int .u8 0, .int .u8 0, .int .u8 0, .int .u8 0, .int .u8 0, .int .u8 0, .int .u8 0, .int .u8 0, .int .u8 0, .int .u8 0, .int .u8 0, .int .u8 0] 62)).setRow w3.heap.size (cv h2).toArray)) := below_setRow (HB3.out.alloc HB3.out.size _) HB3.out.size _
  generalize (w3.alloc (.cells #[.int .u8 0, .int .u8 0, .int .u8 0, .int .u8 0, .int .u8 0, .int .u8 0, .int .u8 0, .int .u8 0, .int .u8 0, .int .u8 0, .int .u8 0, .int .u8 0, .int .u8 0, .int .u8 0, .int .u8 0, .int .u8 0, .int .u8 0, .int .u8 0, .int .u8 0, .int .u8 0, .int .u8 0, .int .u8 0, .int .u8 0, .int .u8 0, .int .u8 0, .int .u8 0, .int .u8 0, .int .u8 0, .int .u8 0, .int .u8 0, .int .u8 0, .int .u8 0, .int .u8 0, .int .u8 0, .int .u8 0, .int .u8 0, .int .u8 0, .int .u8 0, .int .u8 0, .int .u8 0, .int .u8 0, .int .u8 0, .int .u8 0, .int .u8 0, .int .u8 0, .int .u8 0, .int .u8 0, .int .u8 0] 62)).setRow w3.heap.size (cv h2).toArray = Z at HZR HZB ⊢
  obtain ⟨X, HXX⟩ : ∃ X, Hid (w3.heap.size = X) := ⟨_, rfl⟩
  rw [HXX.out] at HZR ⊢
  have hS0 : (fun y : World => y.rangeAt X 0 (cv h2) ∧ Below w.heap.size w y) Z.drew := ⟨by have := HZR.out; simpa using this, HZB.out.drew⟩
  refine wp_region_lat (fun y : World => y.rangeAt X 0 (cv h2) ∧ Below w.heap.size w y) 5 (by kernel_rfl) hS0 (fun hHeld => ?_)
  clear hS0
  refine lat_load 0 rfl (by kernel_rfl) (by kernel_rfl) (by kernel_rfl) (by kernel_rfl) (fun _ _ _ _ h => h) (by rfl) 62 _ rfl X 0 rfl (cv h2) _ (fun y hy => hy.1) Tryd.underlying62 rfl HIC2.out (by assumption) ?_
  try simp only [Act.put, List.setIfInBounds_toArray, List.set_cons_zero, List.set_cons_succ]
  refine lat_take 1 (v := ?_) rfl (by kernel_rfl) (by kernel_rfl) (by kernel_rfl) (by kernel_rfl) (fun _ _ _ h => h) (by rfl) ?_ (by assumption) ?_
  rotate_left
  · (intro y hSy; go_simp <;> with_reducible rfl)
  try simp only [Act.put, List.setIfInBounds_toArray, List.set_cons_zero, List.set_cons_succ]
  refine lat_take 2 (v := ?_) rfl (by kernel_rfl) (by kernel_rfl) (by kernel_rfl) (by kernel_rfl) (fun _ _ _ h => h) (by rfl) ?_ (by assumption) ?_
  rotate_left
  · (intro y hSy; go_simp <;> with_reducible rfl)
  try simp only [Act.put, List.setIfInBounds_toArray, List.set_cons_zero, List.set_cons_succ]
  refine lat_one 3 rfl (by kernel_rfl) (by decide) (by rfl) (fun K hK => ?_)
  go_simp
  refine Calls.mono (HJ.out _ hHeld.2) ?_
  rintro e w5 ⟨g5, rfl, hown5, hb5⟩
  try dsimp only
  have hS5 : (fun y : World => y.rangeAt X 0 (cv h2) ∧ Below w.heap.size w y) w5 := ⟨range_below hHeld.1 hb5, hHeld.2.trans (hb5.mono hHeld.2.size)⟩
  have HO5 : Hid (Own w.heap.size w5 g5 M.length M) := own_le hown5 hHeld.2.size
  refine hK.out _ _ hS5 (fun hS6 => ?_)
  clear hK hHeld hown5 hb5 hS5
  try simp only [Act.put, List.setIfInBounds_toArray, List.set_cons_zero, List.set_cons_succ]
  refine lat_one 4 rfl (by kernel_rfl) (by decide) (by rfl) (fun K hK => ?_)
  go_simp
  try dsimp only
  refine hK.out _ _ hS6 (fun hS7 => ?_)
  clear hK
  try simp only [Act.put, List.setIfInBounds_toArray, List.set_cons_zero, List.set_cons_succ]
  refine lat_last 5 rfl (by kernel_rfl) (by decide) (by kernel_rfl) (by rfl) (fun K hK => ?_)
  go_simp
  try dsimp only
  refine hK.out _ _ ?_
  clear hK
  try simp only [Act.put, List.setIfInBounds_toArray, List.set_cons_zero, List.set_cons_succ]
  go_wp2_with fail
  go_ret2
  exact ⟨g5, rfl, HO5.out, hS7.2⟩
set_option maxHeartbeats 800000 in
set_option maxRecDepth 100000 in
theorem move_arg (a : Option Addr) (cap : Nat) (l : List Nat) (z : Int) (w : World) (ht : Tab w) (hr : Row w a l) (hl : l.length ≤ cap) (hc : cap ≤ maxLen) (hl2 : l.length ≤ 100000) (hok : OkB l) (hn : lenN l = l.length) (hz : baseB z = false) :
    Calls Tryd.prog 21 #[.slice a l.length cap, .int .i64 z] w fun e w' => e = .returned (.tuple #[.slice none 0 0, .int .i64 1]) ∧ Below w.heap.size w w' := by
  have HD : Hid (∀ x, Tab x → Row x a l → Calls Tryd.prog 18 #[.slice a l.length cap] x fun e w' => ∃ a' c', e = .returned (.tuple #[bav (bOf l) a' c', .int .i64 (l.length : Int), .int .i64 0]) ∧ Below x.heap.size x w') := by
    intro x h1 h2
    refine (bdecode_any _ cap l x h1 h2 hl hc hl2).mono ?_
    rintro e w' ⟨q, _, hb⟩
    obtain ⟨a', c', rfl, _⟩ := q hok
    exact ⟨a', c', by rw [hn], hb⟩
  have HB : Hid (∀ x, Calls Tryd.prog 43 #[.int .i64 z] x fun e w' => e = .returned (.bool false) ∧ w' = x) := by
    intro x
    have h2 := isBase_any z x
    rw [hz] at h2
    exact h2
  have HROW : Hid (Row w a l) := hr
  have HT : Hid (Tab w) := ht
  generalize bOf l = B at HD
  obtain ⟨c0, c1, c2, c3, rs⟩ := B
  simp only [bav] at HD
  clear hr ht hok hn hz
  go_enter Tryd.func21, Tryd.ntmps21
  go_wp2_with (first
    | (go_at_call 18; refine (HD.out _ HT.out HROW.out).mono ?_; rintro e w1 ⟨a1, k1, rfl, hb1⟩; have HB1 : Hid (Below w.heap.size w w1) := hb1; clear hb1)
    | (go_at_call 43; refine (HB.out _).mono ?_; rintro e w2 ⟨rfl, hw⟩; subst w2))
  go_ret2
  exact ⟨rfl, HB1.out.alloc HB1.out.size _⟩
end Go.Proofs.YtgpeldmplkijlaaDoor
namespace Go.Proofs.YtgpeldmplkijlaaDoor
set_option linter.unusedSimpArgs false
set_option linter.unusedVariables false
open Go.RowKit
/-- The quick look. -/
structure Ql (l : List Nat) : Prop where
  s1 : 36 ≤ getV l 8 4 true
  s2 : getV l 8 4 true ≤ l.length - 12
  s3 : getV l 8 4 true ≤ 6000
  bs : getV l 0 8 true ≤ 1125899906842624
  pr : getV l 16 8 true ≤ 4611686018427387904
  sq : getV l 24 8 true ≤ 4611686018427387904
  sp : getV l 32 4 true ≤ 100
  c1 : 1 ≤ getV l 36 4 true
  c2 : getV l 36 4 true ≤ 100
  fi : getV l 40 8 true ≤ 1125899906842624
theorem w64n {V : Nat} (h : V ≤ 4611686018427387904) : wrap64 ((V : Nat) : Int) = (V : Int) := w64 _ (by omega) (by omega)
theorem ql_b {l : List Nat} (h : Ql l) : bOf l = ⟨(getV l 0 8 true : Nat), (getV l 32 4 true : Nat), (getV l 16 8 true : Nat), (getV l 24 8 true : Nat), recs (partOf l) (getV l 40 8 true : Nat) (getV l 36 4 true)⟩ ∧ frsOf l = (getV l 40 8 true : Nat) := by
  have h1 := h.bs
  have h2 := h.pr
  have h3 := h.sq
  have h4 := h.fi
  have e : frsOf l = (getV l 40 8 true : Nat) := by unfold frsOf; exact w64n (by omega)
  refine ⟨?_, e⟩
  unfold bOf
  rw [e, w64n (by omega), w64n (by omega), w64n (by omega)]
  rfl
theorem wr_bd {V : Nat} {n : Int} (h : V < 18446744073709551616) (h0 : 0 ≤ wrap64 V) (h1 : wrap64 V ≤ n) : (V : Int) ≤ n := by
  unfold wrap64 at h0 h1
  omega
theorem ok_bounds {l : List Nat} (hb : ∀ x, x ∈ l → x < 256) (h : OkB l) : 36 ≤ getV l 8 4 true ∧ getV l 8 4 true ≤ l.length - 12 ∧ getV l 8 4 true ≤ 6000 ∧ getV l 0 8 true ≤ 1125899906842624 ∧ getV l 16 8 true ≤ 9223372036854775807 ∧ getV l 24 8 true ≤ 9223372036854775807 ∧ getV l 32 4 true ≤ 100 ∧ 1 ≤ getV l 36 4 true ∧ getV l 36 4 true ≤ 100 ∧ getV l 40 8 true ≤ 1125899906842624 := by
  obtain ⟨⟨b0, b1⟩, ⟨s0, s1⟩, q0, q1, r0, hri, hc⟩ := wr_ok h.wr
  have hwl := (wr_len h.wr).1
  have htm := (time_iff _).1 (wr_time h.wr)
  rw [h.fst] at htm
  have hV : ∀ i, getV l i 8 true < 18446744073709551616 := fun i => Nat.lt_of_lt_of_le (getV_lt l i 8 (lt_mem hb)) (by decide)
  have hb5 : (bOf l).rs.length = getV l 36 4 true := recs_len (partOf l) (frsOf l) (cntOf l)
  have e1 : (bOf l).base = wrap64 ((getV l 0 8 true : Nat) : Int) := rfl
  have e2 : (bOf l).prod = wrap64 ((getV l 16 8 true : Nat) : Int) := rfl
  have e3 : (bOf l).seq = wrap64 ((getV l 24 8 true : Nat) : Int) := rfl
  have e4 : (bOf l).span = ((getV l 32 4 true : Nat) : Int) := rfl
  have e5 : frsOf l = wrap64 ((getV l 40 8 true : Nat) : Int) := rfl
  have hn1 := h.n48
  have hn2 := h.nl
  have hn3 := h.nm
  have hl48 := h.l48
  have hln : lenN l = 12 + getV l 8 4 true := rfl
  have m1 := wr_bd (hV 0) (by rw [← e1]; exact b0) (by rw [← e1]; exact b1)
  have m5 := wr_bd (hV 40) (by rw [← e5]; exact htm.1) (by rw [← e5]; exact htm.2)
  have m2 : (getV l 16 8 true : Int) ≤ 9223372036854775807 := by
    have h1 : 0 ≤ wrap64 ((getV l 16 8 true : Nat) : Int) := by rw [← e2]; exact q0
    have h2 := hV 16
    unfold wrap64 at h1
    omega
  have m3 : (getV l 24 8 true : Int) ≤ 9223372036854775807 := by
    have h1 : 0 ≤ wrap64 ((getV l 24 8 true : Nat) : Int) := by rw [← e3]; exact q1
    have h2 := hV 24
    unfold wrap64 at h1
    omega
  rw [e4] at s1
  rw [hb5] at r0 hwl
  clear e1 e2 e3 e4 e5 hV htm hb5 hri hc
  generalize getV l 0 8 true = X0 at *
  generalize getV l 8 4 true = X1 at *
  generalize getV l 16 8 true = X2 at *
  generalize getV l 24 8 true = X3 at *
  generalize getV l 32 4 true = X4 at *
  generalize getV l 36 4 true = X5 at *
  generalize getV l 40 8 true = X6 at *
  rw [hln] at hn1 hn2 hn3
  refine ⟨?_, ?_, ?_, ?_, ?_, ?_, ?_, ?_, ?_, ?_⟩ <;> omega
theorem not_ql {l : List Nat} (hb : ∀ x, x ∈ l → x < 256) (h : ¬ Ql l) (h2 : getV l 16 8 true ≤ 4611686018427387904) (h3 : getV l 24 8 true ≤ 4611686018427387904) : ¬ OkB l := by
  intro hok
  obtain ⟨a1, a2, a3, a4, _, _, a5, a6, a7, a8⟩ := ok_bounds hb hok
  exact h ⟨a1, a2, a3, a4, h2, h3, a5, a6, a7, a8⟩
theorem ql_iff {l : List Nat} (hb : ∀ x, x ∈ l → x < 256) (h : chkB (bOf l) = 0) (he : encBL (bOf l) = l.take (lenN l)) : OkB l := by
  have hi : In64B (bOf l) := ⟨(bd64 (wrap64_wf _)).2, (bd64 (wrap64_wf _)).2⟩
  have h2 := (encB_ok (b := bOf l) (l.drop (lenN l)) h hi).1
  rw [he, List.take_append_drop] at h2
  exact h2
/-- Where the k-th record begins. -/
def pos (p : List Nat) (f : Int) (k : Nat) : Nat := (bodyL (recs p f k) f).length
theorem pos_zero (p : List Nat) (f : Int) : pos p f 0 = 0 := rfl
theorem rest_drop {p : List Nat} {f : Int} (hp : ∀ x, x ∈ p → x < 256) (k : Nat) (h : AllOk p f k) : rest p f k = p.drop (pos p f k) ∧ pos p f k ≤ p.length := by
  have e := (split_body hp k h).1
  have h2 : p.drop (pos p f k) = rest p f k := by
    have h3 : (bodyL (recs p f k) f ++ rest p f k).drop (bodyL (recs p f k) f).length = rest p f k := List.drop_left
    rw [← e] at h3
    exact h3
  refine ⟨h2.symm, ?_⟩
  have e2 := congrArg List.length e
  rw [List.length_append] at e2
  unfold pos
  omega
theorem pos_succ {p : List Nat} {f : Int} (hp : ∀ x, x ∈ p → x < 256) (k : Nat) (h : okD (rest p f k) f = true) : pos p f (k + 1) = pos p f k + decN (rest p f k) f := by
  unfold pos
  rw [recs_succ, body_app, List.length_append, body_cons, body_nil, List.append_nil, (dec_canon (rest_mem f k hp) h).2.2]
theorem all_succ {p : List Nat} {f : Int} {k : Nat} (h : AllOk p f k) (h2 : okD (rest p f k) f = true) : AllOk p f (k + 1) := by
  intro j hj
  by_cases e : j < k
  · exact h j e
  · obtain rfl : j = k := by omega
    exact h2
end Go.Proofs.YtgpeldmplkijlaaDoor
namespace Go.Proofs.YtgpeldmplkijlaaDoor
set_option linter.unusedSimpArgs false
set_option linter.unusedVariables false
open Go.RowKit
/-- The bytes from 16 on, k of them nought. -/
def z16 (m : List Nat) : Nat → List Nat
  | 0 => m
  | k + 1 => (z16 m k).set (16 + k) 0
theorem z16_len (m : List Nat) (k : Nat) : (z16 m k).length = m.length := by
  induction k with
  | zero => rfl
  | succ k ih => rw [z16, List.length_set, ih]
theorem z16_get (m : List Nat) (k i : Nat) (h : i < m.length) : (z16 m k).getD i 0 = if 16 ≤ i ∧ i < 16 + k then 0 else m.getD i 0 := by
  induction k with
  | zero => rw [z16, if_neg (by omega)]
  | succ k ih =>
    rw [z16, getD_set _ _ _ _ (by rw [z16_len]; exact h), ih]
    by_cases e : 16 + k = i
    · rw [if_pos e, if_pos (by omega)]
    · rw [if_neg e]
      by_cases h2 : 16 ≤ i ∧ i < 16 + k
      · rw [if_pos h2, if_pos (by omega)]
      · rw [if_neg h2, if_neg (by omega)]
theorem z16_lt {m : List Nat} (h : ∀ i, m.getD i 0 < 256) (k : Nat) : ∀ i, (z16 m k).getD i 0 < 256 := by
  intro i
  by_cases hi : i < m.length
  · rw [z16_get m k i hi]
    split
    · omega
    · exact h i
  · rw [getD_out _ _ (by rw [z16_len]; omega)]; omega
theorem z16_form (H A C : List Nat) (hH : H.length = 16) (hA : A.length = 16) : z16 (H ++ (A ++ C)) 16 = H ++ (List.replicate 16 0 ++ C) := by
  apply list_ext
  · rw [z16_len, List.length_append, List.length_append, List.length_append, List.length_append, List.length_replicate, hA]
  · intro i hi
    rw [z16_len] at hi
    rw [z16_get _ _ _ hi, getD_app H (A ++ C), getD_app H (List.replicate 16 0 ++ C)]
    by_cases h1 : i < H.length
    · rw [if_pos h1, if_pos h1, if_neg (by omega)]
    · rw [if_neg h1, if_neg h1, getD_app A C, getD_app (List.replicate 16 0) C, List.length_replicate]
      by_cases h2 : i - H.length < 16
      · rw [if_pos (by omega), if_pos h2]
        rw [List.getD, List.getElem?_replicate, if_pos h2]
        rfl
      · rw [if_neg (by omega), if_neg (by omega), if_neg (by omega), hA]
def smL (m : List Nat) : List Nat := putL (z16 m 16) 12 4 true (P.sum ((z16 m 16).drop 16))
theorem smL_len (m : List Nat) : (smL m).length = m.length := by unfold smL; rw [putL_length, z16_len]
def noP (b : Ba) : Ba := ⟨b.base, b.span, 0, 0, b.rs⟩
def wiP (b : Ba) (p q : Int) : Ba := ⟨b.base, b.span, p, q, b.rs⟩
theorem wiP_wr {b : Ba} (h : wrE b = 0) {p q : Int} (hp : 0 ≤ p) (hq : 0 ≤ q) : wrE (wiP b p q) = 0 := by
  unfold wrE at h ⊢
  split at h
  · rename_i hc
    simp only [numsB, Bool.and_eq_true] at hc
    rw [if_pos]
    · exact h
    · simp only [numsB, wiP, Bool.and_eq_true]
      exact ⟨⟨⟨⟨⟨⟨hc.1.1.1.1.1.1, hc.1.1.1.1.1.2⟩, hc.1.1.1.1.2⟩, decide_eq_true hp⟩, decide_eq_true hq⟩, hc.1.2⟩, hc.2⟩
  · omega
theorem wiP_chk {b : Ba} (h : chkB b = 0) {p q : Int} (hp : 0 ≤ p) (hq : 0 ≤ q) : chkB (wiP b p q) = 0 := by
  obtain ⟨h1, h2⟩ := chk_parts h
  unfold chkB
  rw [if_pos (wiP_wr h1 hp hq), if_neg]
  show ¬ 6000 < 48 + (bodyL b.rs (frs b)).length
  omega
theorem sm_enc (b : Ba) : smL (encBL b) = encBL (noP b) := by
  obtain ⟨R, hR⟩ : ∃ R, lay 4 b.span.toNat ++ (lay 4 b.rs.length ++ lay 8 (frs b).toNat) ++ bodyL b.rs (frs b) = R := ⟨_, rfl⟩
  have e1 : tailL b = (lay 8 b.prod.toNat ++ lay 8 b.seq.toNat) ++ R := by rw [← hR]; simp [tailL, midL]
  have e2 : tailL (noP b) = List.replicate 16 0 ++ R := by
    rw [← hR]
    have h0 : lay 8 (0 : Int).toNat ++ lay 8 (0 : Int).toNat = List.replicate 16 0 := by decide
    rw [← h0]
    simp [tailL, midL, noP, frs]
  have hl : (tailL (noP b)).length = (tailL b).length := by rw [e1, e2, List.length_append, List.length_append, List.length_append, List.length_replicate, lay_len, lay_len]
  have e3 : encBL b = headL b.base.toNat ((tailL b).length + 4) (P.sum (tailL b)) ++ ((lay 8 b.prod.toNat ++ lay 8 b.seq.toNat) ++ R) := by rw [← e1]; rfl
  have e4 : z16 (encBL b) 16 = headL b.base.toNat ((tailL b).length + 4) (P.sum (tailL b)) ++ tailL (noP b) := by
    rw [e3, z16_form _ _ _ (head_len _ _ _) (by simp [lay_len]), ← e2]
  unfold smL
  rw [e4, List.drop_left' (head_len _ _ _)]
  have e5 : headL b.base.toNat ((tailL b).length + 4) (P.sum (tailL b)) ++ tailL (noP b) = (lay 8 b.base.toNat ++ lay 4 ((tailL b).length + 4)) ++ (lay 4 (P.sum (tailL b)) ++ tailL (noP b)) := by simp [headL]
  rw [e5]
  have h12 : (lay 8 b.base.toNat ++ lay 4 ((tailL b).length + 4)).length = 12 := by simp [lay_len]
  have h6 := put_mid (lay 8 b.base.toNat ++ lay 4 ((tailL b).length + 4)) (lay 4 (P.sum (tailL b))) (tailL (noP b)) 4 (P.sum (tailL (noP b))) (lay_len _ _)
  rw [h12] at h6
  rw [h6]
  unfold encBL
  rw [hl]
  show _ = headL b.base.toNat _ _ ++ _
  simp [headL]
theorem noP_64 (b : Ba) : In64B (noP b) := ⟨by show (0 : Int) ≤ _; decide, by show (0 : Int) ≤ _; decide⟩
theorem encB_same_len (b : Ba) (p q : Int) : (encBL (wiP b p q)).length = (encBL b).length := by rw [encB_len, encB_len]; rfl
/-- Bytes that are a batch's are one's without producer and Seq too. -/
theorem huge_to {l : List Nat} (hb : ∀ x, x ∈ l → x < 256) (h : OkB l) : OkB (smL (l.take (lenN l))) ∧ wiP (bOf (smL (l.take (lenN l)))) (getV l 16 8 true : Nat) (getV l 24 8 true : Nat) = bOf l ∧ lenN (smL (l.take (lenN l))) = lenN l ∧ chkB (bOf l) = 0 ∧ encBL (bOf l) = l.take (lenN l) := by
  obtain ⟨e, hc, hl⟩ := okB_enc hb h
  obtain ⟨_, _, _, _, p1, q1, _⟩ := ok_bounds hb h
  have h0 : chkB (noP (bOf l)) = 0 := wiP_chk hc (Int.le_refl 0) (Int.le_refl 0)
  obtain ⟨o1, o2, o3⟩ := encB_ok (b := noP (bOf l)) [] h0 (noP_64 _)
  rw [List.append_nil] at o1 o2 o3
  have hs : smL (l.take (lenN l)) = encBL (noP (bOf l)) := by rw [e]; exact sm_enc _
  rw [hs]
  refine ⟨o1, ?_, ?_, hc, e.symm⟩
  · rw [o2]
    have e1 : (bOf l).prod = ((getV l 16 8 true : Nat) : Int) := by
      show wrap64 _ = _
      exact w64 _ (by omega) (by generalize getV l 16 8 true = X at *; omega)
    have e2 : (bOf l).seq = ((getV l 24 8 true : Nat) : Int) := by
      show wrap64 _ = _
      exact w64 _ (by omega) (by generalize getV l 24 8 true = X at *; omega)
    rw [← e1, ← e2]
    rfl
  · rw [o3, ← hl]
    exact encB_same_len (bOf l) 0 0
theorem huge_from {l : List Nat} {b : Ba} {n : Nat} (hn : n ≤ l.length) (hi : In64B b) (h : chkB b = 0) (he : encBL b = l.take n) : OkB l ∧ bOf l = b ∧ lenN l = n := by
  obtain ⟨o1, o2, o3⟩ := encB_ok (b := b) (l.drop n) h hi
  rw [he, List.take_append_drop] at o1 o2 o3
  refine ⟨o1, o2, ?_⟩
  rw [o3, List.length_take]
  omega
theorem sm_small (m : List Nat) (hm : 48 ≤ m.length) : getV (smL m) 16 8 true = 0 ∧ getV (smL m) 24 8 true = 0 := by
  have hz : ∀ p, 16 ≤ p → p + 8 ≤ 32 → getV (smL m) p 8 true = 0 := by
    intro p h1 h2
    have h3 : ∀ j, j < 8 → (smL m).getD (p + plc 8 true j) 0 = 0 := by
      intro j hj
      have h4 : plc 8 true j < 8 := plc_lt 8 true j hj
      unfold smL
      rw [putL_get _ _ _ _ _ _ (by rw [z16_len]; omega), if_neg (by omega), z16_get m 16 _ (by omega), if_pos (by omega)]
    unfold getV
    have h5 : ∀ n, n ≤ 8 → sm (fun j => (smL m).getD (p + plc 8 true j) 0) n = 0 := by
      intro n
      induction n with
      | zero => intro _; rfl
      | succ n ih => intro hn; rw [sm, ih (by omega), h3 n (by omega)]; simp
    exact h5 8 (Nat.le_refl _)
  exact ⟨hz 16 (by omega) (by omega), hz 24 (by omega) (by omega)⟩
theorem smL_lt {m : List Nat} (h : ∀ i, m.getD i 0 < 256) : ∀ i, (smL m).getD i 0 < 256 := putL_lt _ _ _ _ _ (z16_lt h 16)
end Go.Proofs.YtgpeldmplkijlaaDoor
namespace Go.Proofs.YtgpeldmplkijlaaDoor
set_option linter.unusedSimpArgs false
set_option linter.unusedVariables false
open Go.RowKit
/-- What is told of bytes: the batch, or none. -/
def DecQ (ok : Prop) (c0 c1 c2 c3 : Int) (RS : List Rc) (n : Nat) (w : World) (e : Ending) (w' : World) : Prop :=
  (ok → ∃ a' c', e = .returned (.tuple #[.agg #[.int .i64 c0, .int .i64 c1, .int .i64 c2, .int .i64 c3, .slice a' RS.length c'], .int .i64 (n : Int), .int .i64 0]) ∧ RRow w' a' RS ∧ (a' = none → c' = 0)) ∧ (¬ ok → e = .returned (.tuple #[.agg #[.int .i64 0, .int .i64 0, .int .i64 0, .int .i64 0, .slice none 0 0], .int .i64 0, .int .i64 10])) ∧ Below w.heap.size w w'
/-- The batch that grows, the empty one, the result's box. -/
structure DBS (w : World) (base sp prod seq : Int) (v : Value) (L : List Rc) (x : World) : Prop where
  own : x.ownsRow (w.heap.size + 3) 58 6 v L.length (rcv L)
  box : x.heap[w.heap.size + 2]? = some (.cells #[.int .i64 base, .int .i64 sp, .int .i64 prod, .int .i64 seq, v] 24 (0, 0))
  non : x.heap[w.heap.size + 1]? = some (.cells #[.int .i64 0, .int .i64 0, .int .i64 0, .int .i64 0, .slice none 0 0] 24 (0, 0))
  res : x.heap[w.heap.size]? = some (.cells #[.int .i64 0, .int .i64 0, .int .i64 0, .int .i64 0, .slice none 0 0] 24 (0, 0))
  bel : Below w.heap.size w x
theorem three_new (w : World) (o1 o2 o3 : Obj) : Below w.heap.size w (((w.alloc o1).alloc o2).alloc o3) ∧ (((w.alloc o1).alloc o2).alloc o3).heap[w.heap.size]? = some o1 ∧ (((w.alloc o1).alloc o2).alloc o3).heap[w.heap.size + 1]? = some o2 ∧ (((w.alloc o1).alloc o2).alloc o3).heap[w.heap.size + 2]? = some o3 := by
  have b1 : Below w.heap.size w (w.alloc o1) := below_box _
  have b2 : Below w.heap.size w ((w.alloc o1).alloc o2) := b1.alloc (by simp) _
  have b3 : Below w.heap.size w (((w.alloc o1).alloc o2).alloc o3) := b2.alloc (by simp; omega) _
  refine ⟨b3, ?_, ?_, ?_⟩
  · rw [(below_box (w := (w.alloc o1).alloc o2) o3).block w.heap.size (by simp; omega), (below_box (w := w.alloc o1) o2).block w.heap.size (by simp)]
    exact heap_alloc_new w o1
  · rw [(below_box (w := (w.alloc o1).alloc o2) o3).block (w.heap.size + 1) (by simp)]
    have := heap_alloc_new (w.alloc o1) o2
    simpa using this
  · have := heap_alloc_new ((w.alloc o1).alloc o2) o3
    simpa using this
theorem DBS.new (w : World) (base sp prod seq : Int) : DBS w base sp prod seq (.slice none 0 0) [] (((w.alloc (.cells #[.int .i64 0, .int .i64 0, .int .i64 0, .int .i64 0, .slice none 0 0] 24)).alloc (.cells #[.int .i64 0, .int .i64 0, .int .i64 0, .int .i64 0, .slice none 0 0] 24)).alloc (.cells #[.int .i64 base, .int .i64 sp, .int .i64 prod, .int .i64 seq, .slice none 0 0] 24)) := by
  obtain ⟨b, h1, h2, h3⟩ := three_new w (.cells #[.int .i64 0, .int .i64 0, .int .i64 0, .int .i64 0, .slice none 0 0] 24) (.cells #[.int .i64 0, .int .i64 0, .int .i64 0, .int .i64 0, .slice none 0 0] 24) (.cells #[.int .i64 base, .int .i64 sp, .int .i64 prod, .int .i64 seq, .slice none 0 0] 24)
  exact ⟨World.ownsRow_nil _ _ _ _, h3, h2, h1, b⟩
theorem DBS.below {w x y : World} {base sp prod seq : Int} {v : Value} {L : List Rc} (h : DBS w base sp prod seq v L x) (hb : Below x.heap.size x y) : DBS w base sp prod seq v L y :=
  ⟨owns_below h.own hb, (hb.block _ (Array.getElem?_eq_some_iff.1 h.box).1).trans h.box, (hb.block _ (Array.getElem?_eq_some_iff.1 h.non).1).trans h.non, (hb.block _ (Array.getElem?_eq_some_iff.1 h.res).1).trans h.res, h.bel.trans (hb.mono h.bel.size)⟩
theorem DBS.cells {w x : World} {base sp prod seq : Int} {v : Value} {L : List Rc} (h : DBS w base sp prod seq v L x) :
    x.cell? ⟨w.heap.size + 2, 0, none⟩ = some (.int .i64 base) ∧ x.cell? ⟨w.heap.size + 2, 1, none⟩ = some (.int .i64 sp) ∧ x.cell? ⟨w.heap.size + 2, 2, none⟩ = some (.int .i64 prod) ∧ x.cell? ⟨w.heap.size + 2, 3, none⟩ = some (.int .i64 seq) ∧ x.cell? ⟨w.heap.size + 2, 4, none⟩ = some v ∧ w.heap.size + 2 < x.heap.size ∧ ∀ i, x.frozen? ⟨w.heap.size + 2, i, none⟩ = false := by
  have hc : ∀ j, x.cell? ⟨w.heap.size + 2, j, none⟩ = _ := fun j => cell_of_row _ (w.heap.size + 2) j _ 24 (0, 0) h.box
  exact ⟨by rw [hc]; rfl, by rw [hc]; rfl, by rw [hc]; rfl, by rw [hc]; rfl, by rw [hc]; rfl, (Array.getElem?_eq_some_iff.1 h.box).1, fun i => by simp [World.frozen?, h.box]⟩
theorem DBS.grow {w x y : World} {base sp prod seq : Int} {v v' : Value} {L : List Rc} {r : Rc} (h : DBS w base sp prod seq v L x) (hb : Below (w.heap.size + 3) x y) (hown : y.ownsRow (w.heap.size + 3) 58 6 v' (L.length + 1) (rcv L ++ rcv [r])) : DBS w base sp prod seq v' (L ++ [r]) (y.setCell ⟨w.heap.size + 2, 4, none⟩ v') := by
  have hbx : y.heap[w.heap.size + 2]? = _ := (hb.block (w.heap.size + 2) (by omega)).trans h.box
  have ho : ∀ j, j ≠ w.heap.size + 2 → (y.setCell ⟨w.heap.size + 2, 4, none⟩ v').heap[j]? = y.heap[j]? := by
    intro j hj
    unfold World.setCell
    simp [Array.getElem?_modify, Ne.symm hj]
  refine ⟨?_, by rw [setCell_heap hbx]; rfl, by rw [ho _ (by omega), hb.block (w.heap.size + 1) (by omega)]; exact h.non, by rw [ho _ (by omega), hb.block w.heap.size (by omega)]; exact h.res, (h.bel.trans (hb.mono (by omega))).setCell (p := ⟨w.heap.size + 2, 4, none⟩) (by show _ ≤ w.heap.size + 2; omega) _⟩
  rw [rcv_app, List.length_append]
  rcases hown.2 with ⟨e, e0⟩ | ⟨g, cap, cur, e, hB, hg, r⟩
  · omega
  · exact ⟨hown.1, .inr ⟨g, cap, cur, e, hB, by rw [ho _ (by omega)]; exact hg, r⟩⟩
theorem dbs_cell4 {w x y : World} {base sp prod seq : Int} {v : Value} {L : List Rc} (h : DBS w base sp prod seq v L x) (hb : Below (w.heap.size + 3) x y) : y.cell? ⟨w.heap.size + 2, 4, none⟩ = some v ∧ y.frozen? ⟨w.heap.size + 2, 4, none⟩ = false ∧ w.heap.size + 2 < y.heap.size := by
  obtain ⟨_, _, _, _, c4, cz, cf⟩ := DBS.cells h
  exact ⟨(hb.cell (p := ⟨w.heap.size + 2, 4, none⟩) (by show w.heap.size + 2 < _; omega)).trans c4, (hb.frozen (p := ⟨w.heap.size + 2, 4, none⟩) (by show w.heap.size + 2 < _; omega)).trans (cf 4), Nat.lt_of_lt_of_le cz hb.size⟩
theorem DBS.apart {w x : World} {base sp prod seq : Int} {a : Option Addr} {n c : Nat} {L : List Rc} (h : DBS w base sp prod seq (.slice a n c) L x) : ∀ g, a = some g → g.block ≠ w.heap.size := by
  intro g hg
  subst hg
  rcases h.own.2 with ⟨e, _⟩ | ⟨g', cap', cur, e, hB, _⟩
  · cases e
  · injection e with e1
    injection e1 with e1
    rw [e1]
    show g' ≠ _
    omega
set_option maxHeartbeats 6400000 in
set_option maxRecDepth 100000 in
theorem rdb_in (pb poff cap : Nat) (l : List Nat) (w : World) (hr : Row w (some ⟨pb, poff, none⟩) l) (hl : l.length ≤ cap) (hc : cap ≤ maxLen) (hl2 : l.length ≤ 8000) (h48 : 48 ≤ l.length)
    (OK : Prop) (V0 V1 V2 V3 V4 V5 V6 Nn : Nat) (RS : Nat → List Rc) (I : Nat → Nat) (D : Nat → List Nat) (R : Nat → Rc) (nk : Nat → Nat) (EL : List Nat) (ck : Int)
    (HG0 : Hid (∀ y, Row y (some ⟨pb, poff, none⟩) l → Calls Tryd.prog 39 #[.slice (some ⟨pb, poff, none⟩) l.length cap, .int .i64 0, .int .i64 8, .bool true] y fun e w' => e = .returned (.tuple #[.int .u64 (V0 : Int), .bool true]) ∧ w' = y))
    (HG1 : Hid (∀ y, Row y (some ⟨pb, poff, none⟩) l → Calls Tryd.prog 39 #[.slice (some ⟨pb, poff, none⟩) l.length cap, .int .i64 8, .int .i64 4, .bool true] y fun e w' => e = .returned (.tuple #[.int .u64 (V1 : Int), .bool true]) ∧ w' = y))
    (HG2 : Hid (∀ y, Row y (some ⟨pb, poff, none⟩) l → Calls Tryd.prog 39 #[.slice (some ⟨pb, poff, none⟩) l.length cap, .int .i64 16, .int .i64 8, .bool true] y fun e w' => e = .returned (.tuple #[.int .u64 (V2 : Int), .bool true]) ∧ w' = y))
    (HG3 : Hid (∀ y, Row y (some ⟨pb, poff, none⟩) l → Calls Tryd.prog 39 #[.slice (some ⟨pb, poff, none⟩) l.length cap, .int .i64 24, .int .i64 8, .bool true] y fun e w' => e = .returned (.tuple #[.int .u64 (V3 : Int), .bool true]) ∧ w' = y))
    (HG4 : Hid (∀ y, Row y (some ⟨pb, poff, none⟩) l → Calls Tryd.prog 39 #[.slice (some ⟨pb, poff, none⟩) l.length cap, .int .i64 32, .int .i64 4, .bool true] y fun e w' => e = .returned (.tuple #[.int .u64 (V4 : Int), .bool true]) ∧ w' = y))
    (HG5 : Hid (∀ y, Row y (some ⟨pb, poff, none⟩) l → Calls Tryd.prog 39 #[.slice (some ⟨pb, poff, none⟩) l.length cap, .int .i64 36, .int .i64 4, .bool true] y fun e w' => e = .returned (.tuple #[.int .u64 (V5 : Int), .bool true]) ∧ w' = y))
    (HG6 : Hid (∀ y, Row y (some ⟨pb, poff, none⟩) l → Calls Tryd.prog 39 #[.slice (some ⟨pb, poff, none⟩) l.length cap, .int .i64 40, .int .i64 8, .bool true] y fun e w' => e = .returned (.tuple #[.int .u64 (V6 : Int), .bool true]) ∧ w' = y))
    (s1 : 36 ≤ V1) (s2 : V1 ≤ l.length - 12) (s3 : V1 ≤ 6000) (bs : V0 ≤ 1125899906842624) (pr : V2 ≤ 4611686018427387904) (sq : V3 ≤ 4611686018427387904) (sp : V4 ≤ 100) (k1 : 1 ≤ V5) (k2 : V5 ≤ 100) (fi : V6 ≤ 1125899906842624) (hN : Nn = 12 + V1)
    (HI0 : Hid (I 0 = 48)) (HR0 : Hid (RS 0 = [])) (HRL : Hid (∀ k, (RS k).length = k))
    (okk : Nat → Prop) (al : Nat → Prop) (HA0 : Hid (al 0)) (hIb : ∀ k, k ≤ V5 → al k → I k ≤ Nn)
    (HYs : Hid (∀ k, k < V5 → al k → okk k → al (k + 1) ∧ I (k + 1) = I k + nk k ∧ RS (k + 1) = RS k ++ [R k] ∧ ∀ y, Row y (some ⟨pb, poff, none⟩) l → Calls Tryd.prog 41 #[.slice (cutA (some ⟨pb, poff, none⟩) cap (I k)) (Nn - I k) (cap - I k), .int .i64 (V6 : Int)] y fun e w' => e = .returned (.tuple #[.agg (R k).cells, .int .i64 (nk k : Int), .int .i64 0]) ∧ Below y.heap.size y w'))
    (HNs : Hid (∀ k, k < V5 → al k → ¬ okk k → ¬ OK ∧ ∀ y, Row y (some ⟨pb, poff, none⟩) l → Calls Tryd.prog 41 #[.slice (cutA (some ⟨pb, poff, none⟩) cap (I k)) (Nn - I k) (cap - I k), .int .i64 (V6 : Int)] y fun e w' => e = .returned (.tuple #[.agg rz.cells, .int .i64 0, .int .i64 10]) ∧ Below y.heap.size y w'))
    (HEN : Hid (∀ x a' c', Tab x → RRow x a' (RS V5) → Calls Tryd.prog 14 #[.agg #[.int .i64 (V0 : Int), .int .i64 (V4 : Int), .int .i64 (V2 : Int), .int .i64 (V3 : Int), .slice a' V5 c']] x fun e w' => ∃ v, e = .returned (.tuple #[v, .int .i64 ck]) ∧ w'.ownsRow x.heap.size 5 1 v EL.length (cv EL) ∧ Below x.heap.size x w'))
    (HEL : Hid (∀ i, EL.getD i 0 < 256)) (HF1 : Hid (ck ≠ 0 → ¬ OK)) (HF2 : Hid (al V5 → I V5 ≠ Nn → ¬ OK)) (HF3 : Hid (¬ EL = l.take Nn → ¬ OK)) (HF4 : Hid (EL = l.take Nn → ck = 0 → OK)) (ht : Tab w) :
    Calls Tryd.prog 19 #[.slice (some ⟨pb, poff, none⟩) l.length cap] w fun e w' => DecQ OK (V0 : Int) (V4 : Int) (V2 : Int) (V3 : Int) (RS V5) Nn w e w' := by
  have HROW : Hid (Row w (some ⟨pb, poff, none⟩) l) := hr
  have HT : Hid (Tab w) := ht
  have hlt := hr.lt
  have HW2 : Hid (∀ o1 o2, Below w.heap.size w ((w.alloc o1).alloc o2)) := fun o1 o2 => (below_box o1).trans ((below_box o2).mono (by simp))
  have hpb : pb < w.heap.size := by
    obtain ⟨b, off, e, hc0, _⟩ := hr 0 (by omega)
    have := World.block_lt_of_cell? _ _ hc0
    injection e with e
    injection e with e1 e2
    subst e1
    simpa using this
  have HSQ : Hid ((¬ EL = l.take Nn → ((strN EL).toList == (strN (l.take Nn)).toList) = false) ∧ (EL = l.take Nn → ((strN EL).toList == (strN (l.take Nn)).toList) = true)) := by
    have h1 := str_eq EL (l.take Nn) (mem_lt HEL.out) (fun x hx => mem_lt hlt x (List.mem_of_mem_take hx))
    exact ⟨fun h => by rw [h1, decide_eq_false h], fun h => by rw [h1, decide_eq_true h]⟩
  obtain ⟨Zn, HZ⟩ : ∃ Zn : Nat, Hid (l.length - 12 = Zn) := ⟨_, rfl⟩
  rw [HZ.out] at s2
  have z1 : IntKind.i64.wrap ((l.length : Int) - 12) = (Zn : Int) := by have := HZ.out; rw [IntKind.wrap_i64]; omega
  have z2 : IntKind.u64.wrap (Zn : Int) = (Zn : Int) := by have := HZ.out; rw [IntKind.wrap_u64]; omega
  have hl48 : ¬ (l.length : Int) < 48 := by omega
  have hl48d : decide ((l.length : Int) < 48) = false := decide_eq_false hl48
  have e1 : ¬ (V1 : Int) < 36 := by omega
  have e1d : decide ((V1 : Int) < 36) = false := decide_eq_false e1
  have e2 : ¬ Zn < V1 := by omega
  have e2d : decide (Zn < V1) = false := decide_eq_false e2
  have e3 : ¬ (6000 : Int) < (V1 : Int) := by omega
  have e3d : decide ((6000 : Int) < (V1 : Int)) = false := decide_eq_false e3
  have e4 : ¬ (1125899906842624 : Int) < (V0 : Int) := by omega
  have e4d : decide ((1125899906842624 : Int) < (V0 : Int)) = false := decide_eq_false e4
  have e5 : ¬ (4611686018427387904 : Int) < (V2 : Int) := by omega
  have e5d : decide ((4611686018427387904 : Int) < (V2 : Int)) = false := decide_eq_false e5
  have e6 : ¬ (4611686018427387904 : Int) < (V3 : Int) := by omega
  have e6d : decide ((4611686018427387904 : Int) < (V3 : Int)) = false := decide_eq_false e6
  have e7 : ¬ (100 : Int) < (V4 : Int) := by omega
  have e7d : decide ((100 : Int) < (V4 : Int)) = false := decide_eq_false e7
  have e8 : ¬ (V5 : Int) < 1 := by omega
  have e8d : decide ((V5 : Int) < 1) = false := decide_eq_false e8
  have e9 : ¬ (100 : Int) < (V5 : Int) := by omega
  have e9d : decide ((100 : Int) < (V5 : Int)) = false := decide_eq_false e9
  have ea : ¬ (1125899906842624 : Int) < (V6 : Int) := by omega
  have ead : decide ((1125899906842624 : Int) < (V6 : Int)) = false := decide_eq_false ea
  have m0 : IntKind.i64.wrap (V0 : Int) = (V0 : Int) := by rw [IntKind.wrap_i64]; omega
  have m1 : IntKind.i64.wrap (V1 : Int) = (V1 : Int) := by rw [IntKind.wrap_i64]; omega
  have m2 : IntKind.i64.wrap (V2 : Int) = (V2 : Int) := by rw [IntKind.wrap_i64]; omega
  have m3 : IntKind.i64.wrap (V3 : Int) = (V3 : Int) := by rw [IntKind.wrap_i64]; omega
  have m4 : IntKind.i64.wrap (V4 : Int) = (V4 : Int) := by rw [IntKind.wrap_i64]; omega
  have m5 : IntKind.i64.wrap (V5 : Int) = (V5 : Int) := by rw [IntKind.wrap_i64]; omega
  have m6 : IntKind.i64.wrap (V6 : Int) = (V6 : Int) := by rw [IntKind.wrap_i64]; omega
  have m7 : IntKind.i64.wrap (12 + (V1 : Int)) = (Nn : Int) := by rw [IntKind.wrap_i64]; omega
  have hNl : Nn ≤ l.length := by have := HZ.out; omega
  have hN6 : Nn ≤ 6012 := by omega
  have HNL : Hid (Nn ≤ cap ∧ cap ≤ maxLen ∧ l.length ≤ cap) := ⟨by omega, hc, hl⟩
  clear hr ht hlt hc hl s1 s2 s3 bs pr sq sp k1 fi hN h48
  have tok0 : True := trivial
  have tok1 : True := trivial
  have tok2 : True := trivial
  have tok3 : True := trivial
  have tok4 : True := trivial
  have tok5 : True := trivial
  have tok6 : True := trivial
  go_enter Tryd.func19, Tryd.ntmps19
  go_wp2_with (first
    | (go_at_call 39; have _t := tok0; refine (HG0.out _ (Row.below HROW.out (HW2.out _ _))).mono ?_; clear tok0 _t; rintro e wg ⟨rfl, hw⟩; subst wg)
    | (go_at_call 39; have _t := tok1; refine (HG1.out _ (Row.below HROW.out (HW2.out _ _))).mono ?_; clear tok1 _t; rintro e wg ⟨rfl, hw⟩; subst wg)
    | (go_at_call 39; have _t := tok2; refine (HG2.out _ (Row.below HROW.out (HW2.out _ _))).mono ?_; clear tok2 _t; rintro e wg ⟨rfl, hw⟩; subst wg)
    | (go_at_call 39; have _t := tok3; refine (HG3.out _ (Row.below HROW.out (HW2.out _ _))).mono ?_; clear tok3 _t; rintro e wg ⟨rfl, hw⟩; subst wg)
    | (go_at_call 39; have _t := tok4; refine (HG4.out _ (Row.below HROW.out (HW2.out _ _))).mono ?_; clear tok4 _t; rintro e wg ⟨rfl, hw⟩; subst wg)
    | (go_at_call 39; have _t := tok5; refine (HG5.out _ (Row.below HROW.out (HW2.out _ _))).mono ?_; clear tok5 _t; rintro e wg ⟨rfl, hw⟩; subst wg)
    | (go_at_call 39; have _t := tok6; refine (HG6.out _ (Row.below HROW.out (HW2.out _ _))).mono ?_; clear tok6 _t; rintro e wg ⟨rfl, hw⟩; subst wg))
  go_loopw [22, 23] (fun i kk x => ∃ (k : Nat) (v : Value), k ≤ V5 ∧ kk = .int .i64 k ∧ i = .int .i64 ((I k : Nat) : Int) ∧ al k ∧ DBS w (V0 : Int) (V4 : Int) (V2 : Int) (V3 : Int) v (RS k) x) (fun _ kk _ => V5 - (intOf kk).toNat)
  case atStart => exact ⟨0, _, by omega, rfl, by rw [HI0.out]; rfl, HA0.out, by rw [HR0.out]; exact DBS.new w _ _ _ _⟩
  case round =>
    obtain ⟨k, v, hk, rfl, rfl, hal, hS⟩ := hrel
    have hrl := HRL.out k
    obtain ⟨av', cv', rfl, hrv, hnv, hlv, hmv⟩ := owns_rrow hS.own
    rw [hrl] at hS hlv
    have hIk := hIb k hk hal
    have ks : ∀ y, (Instr.slice 27 (.slice (some ⟨pb, poff, none⟩) l.length cap) (some (.int .i64 ((I k : Nat) : Int))) (some (.int .i64 (Nn : Int))) none).run Tryd.prog y = .ok (.slice (cutA (some ⟨pb, poff, none⟩) cap (I k)) (Nn - I k) (cap - I k)) y := fun y => run_slice_two y _ l.length cap (I k) Nn hIk (by have := HNL.out.1; omega)
    have HS : Hid (DBS w (V0 : Int) (V4 : Int) (V2 : Int) (V3 : Int) (.slice av' k cv') (RS k) wr) := hS
    by_cases hlt : k < V5
    · have hltI : (k : Int) < (V5 : Int) := by omega
      by_cases hok : okk k
      · obtain ⟨hal2, hI2, hR2, hD⟩ := HYs.out k hlt hal hok
        have HD : Hid (∀ y, Row y (some ⟨pb, poff, none⟩) l → Calls Tryd.prog 41 #[.slice (cutA (some ⟨pb, poff, none⟩) cap (I k)) (Nn - I k) (cap - I k), .int .i64 (V6 : Int)] y fun e w' => e = .returned (.tuple #[.agg (R k).cells, .int .i64 (nk k : Int), .int .i64 0]) ∧ Below y.heap.size y w') := hD
        have HAL : Hid (al (k + 1)) := hal2
        have HI2 : Hid (I (k + 1) = I k + nk k) := hI2
        have HR2 : Hid (RS (k + 1) = RS k ++ [R k]) := hR2
        have hI2b := hIb (k + 1) (by omega) hal2
        clear hal2 hR2 hD HYs HNs hS hrv HA0 HI0 HR0 HEN HEL HF1 HF2 HF3 HF4 HSQ hIb
        rw [hI2] at hI2b
        clear hI2
        have hwi : IntKind.i64.wrap (((I k : Nat) : Int) + ((nk k : Nat) : Int)) = ((I k : Nat) : Int) + ((nk k : Nat) : Int) := by rw [IntKind.wrap_i64]; omega
        generalize R k = r at *
        obtain ⟨hk', kk, hv, vv, t, o⟩ := r
        simp only [Rc.cells] at HD
        generalize nk k = n1 at *
        have hzz : w.heap.size + 3 ≤ wr.heap.size := by obtain ⟨_, _, _, _, _, cz, _⟩ := DBS.cells HS.out; omega
        go_wp2_with (first
          | (go_at_call 41; refine (HD.out _ (Row.below HROW.out HS.out.bel)).mono ?_; rintro e w3 ⟨rfl, hb3⟩; have HS3 : Hid (DBS w (V0 : Int) (V4 : Int) (V2 : Int) (V3 : Int) (.slice av' k cv') (RS k) w3) := DBS.below HS.out hb3; obtain ⟨c0, c1, c2, c3, c4, cz, cf⟩ := DBS.cells HS3.out; have hz3 : w.heap.size + 3 ≤ w3.heap.size := (by omega); have HRN : Hid (∀ o1 : Obj, RRow ((w3.alloc o1).alloc (.cells #[.bool hk', .string kk, .bool hv, .string vv, .int .i64 t, .int .i64 o] 58)) (some ⟨w3.heap.size + 1, 0, none⟩) [⟨hk', kk, hv, vv, t, o⟩]) := (fun o1 => by have h2 := rrow_new (w3.alloc o1) ⟨hk', kk, hv, vv, t, o⟩; rw [show (w3.alloc o1).heap.size = w3.heap.size + 1 by simp] at h2; exact h2); have HT2 : Hid (∀ o1 o2, Below w3.heap.size w3 ((w3.alloc o1).alloc o2)) := (fun o1 o2 => (below_box o1).trans ((below_box o2).mono (by simp))); clear hb3 HS)
          | (at_builtin; have _t := HRN; refine wpList_append_recs (by rfl) _ _ rfl (w.heap.size + 3) _ _ _ _ rfl (DBS.below HS3.out (HT2.out _ _)).own (Below.refl _ _) (by simp; omega) _ 1 [⟨hk', kk, hv, vv, t, o⟩] rfl (HRN.out _) (fun c => by cases c) (by rw [hrl]; simp; omega) ?_; intro v5 w5 hown5 hb5; have HG : Hid (DBS w (V0 : Int) (V4 : Int) (V2 : Int) (V3 : Int) v5 (RS k ++ [⟨hk', kk, hv, vv, t, o⟩]) (w5.setCell ⟨w.heap.size + 2, 4, none⟩ v5)) := DBS.grow (DBS.below HS3.out (HT2.out _ _)) hb5 hown5; clear c0 c1 c2 c3 c4 cz cf; obtain ⟨y4, yf, yz⟩ := dbs_cell4 (DBS.below HS3.out (HT2.out _ _)) hb5; obtain ⟨a5, k5, rfl, -⟩ := owns_rrow (rs := RS k ++ [⟨hk', kk, hv, vv, t, o⟩]) (by rw [rcv_app, List.length_append]; exact hown5); clear hown5 hb5 _t HRN))
        refine ⟨⟨k + 1, _, by omega, by go_num, ?_, HAL.out, by rw [HR2.out]; have h2 := HG.out; rw [show (RS k ++ [(⟨hk', kk, hv, vv, t, o⟩ : Rc)]).length = k + 1 by simp [hrl]] at h2; exact h2⟩, by simp [intOf]; omega⟩
        rw [HI2.out]
        first | rfl | simp
      · obtain ⟨hno, hD⟩ := HNs.out k hlt hal hok
        have HD : Hid (∀ y, Row y (some ⟨pb, poff, none⟩) l → Calls Tryd.prog 41 #[.slice (cutA (some ⟨pb, poff, none⟩) cap (I k)) (Nn - I k) (cap - I k), .int .i64 (V6 : Int)] y fun e w' => e = .returned (.tuple #[.agg rz.cells, .int .i64 0, .int .i64 10]) ∧ Below y.heap.size y w') := hD
        have HNO : Hid (¬ OK) := hno
        clear hno hD HYs HNs hS hrv HA0 HI0 HR0 HEN HEL HF1 HF2 HF3 HF4 HSQ hIb
        simp only [Rc.cells, rz] at HD
        go_wp2_with (first
          | (go_at_call 41; refine (HD.out _ (Row.below HROW.out HS.out.bel)).mono ?_; rintro e w3 ⟨rfl, hb3⟩; have HS3 : Hid (DBS w (V0 : Int) (V4 : Int) (V2 : Int) (V3 : Int) (.slice av' k cv') (RS k) (w3.alloc (.cells #[.bool false, .string ⟨#[]⟩, .bool false, .string ⟨#[]⟩, .int .i64 0, .int .i64 0] 58))) := DBS.below (DBS.below HS.out hb3) (below_box _); obtain ⟨n0, n1, n2, n3, n4, nz⟩ := dcr_cells (DBS.below HS.out hb3).non; clear hb3 HS)
          | (have _t := HS3; refine wpList_store_row rfl 24 _ _ rfl w.heap.size #[.int .i64 0, .int .i64 0, .int .i64 0, .int .i64 0, .slice none 0 0] rfl rfl 24 _ HS3.out.res Tryd.info24 rfl (bat_one _ _ _ _ _ _ _) ?_))
        refine bodyPost_ret (v := .tuple #[.agg #[.int .i64 0, .int .i64 0, .int .i64 0, .int .i64 0, .slice none 0 0], .int .i64 0, .int .i64 10]) ?_ rfl ⟨fun h => absurd h HNO.out, fun _ => rfl, ?_⟩
        · exact results_bat3 (p := 2) (u := 3) (u2 := 4) (by rfl) _ _ w.heap.size _ _ _ (by rfl) (by rfl) (by rfl) rfl (setRow_heap _ _ _ _ _ _ HS3.out.res)
        · exact below_setRow HS3.out.bel (Nat.le_refl _) _
    · obtain rfl : V5 = k := by omega
      have HRV : Hid (RRow wr av' (RS V5)) := hrv
      have HAV : Hid _ := hS.apart
      obtain ⟨c0, c1, c2, c3, c4, cz, cf⟩ := DBS.cells HS.out
      have HF2' : Hid (I V5 ≠ Nn → ¬ OK) := HF2.out hal
      have kt : ∀ y, (Instr.slice 27 (.slice (some ⟨pb, poff, none⟩) l.length cap) none (some (.int .i64 (Nn : Int))) none).run Tryd.prog y = .ok (.slice (some ⟨pb, poff, none⟩) Nn cap) y := fun y => run_slice_to y ⟨pb, poff, none⟩ l.length cap Nn (by have := HNL.out.1; omega) hNl
      have HCV : Hid (∀ y, Row y (some ⟨pb, poff, none⟩) l → (convert 27 9 (.slice (some ⟨pb, poff, none⟩) Nn cap)).run Tryd.prog y = .ok (.string (strN (l.take Nn))) y) := fun y h => conv_take cap h (by omega)
      have HCW : Hid (∀ y a2 k2, Row y a2 EL → (convert 27 9 (.slice a2 EL.length k2)).run Tryd.prog y = .ok (.string (strN EL)) y) := fun y a2 k2 h => conv_row k2 h
      clear HYs HNs hS hrv HA0 HI0 HR0 HF2 hIb hal hlt hk ks
      by_cases hck : ck = 0
      · subst hck
        by_cases hIe : I V5 = Nn
        · by_cases hE : EL = l.take Nn
          · have HOK : Hid OK := HF4.out hE rfl
            have hst := HSQ.out.2 hE
            clear HF1 HF2' HF3 HF4 HSQ hE
            generalize strN (l.take Nn) = S2 at *
            generalize strN EL = S1 at *
            rw [hIe]
            clear hIe hIk
            have hNe : ((Nn : Int) != (Nn : Int)) = false := by simp
            go_wp2_with (go_at_call 14; refine (HEN.out _ _ _ (Tab.below HT.out HS.out.bel) HRV.out).mono ?_; rintro e w4 ⟨v4, rfl, ho4, hb4⟩; obtain ⟨a4, q4, rfl, hr4, _⟩ := owns_sl ho4 HEL.out; have HS4 : Hid (DBS w (V0 : Int) (V4 : Int) (V2 : Int) (V3 : Int) (.slice av' V5 cv') (RS V5) w4) := DBS.below HS.out hb4; have HRV4 : Hid (RRow w4 av' (RS V5)) := RRow.below HRV.out hb4; have kc1 : ∀ n, (convert 27 9 (.slice a4 EL.length q4)).run Tryd.prog (w4.drewN n) = .ok (.string S1) (w4.drewN n) := (fun n => HCW.out _ _ _ (Row.drewN hr4 n)); have kc2 : ∀ n, (convert 27 9 (.slice (some ⟨pb, poff, none⟩) Nn cap)).run Tryd.prog (w4.drewN n) = .ok (.string S2) (w4.drewN n) := (fun n => HCV.out _ (Row.drewN (Row.below HROW.out HS4.out.bel) n)); clear c0 c1 c2 c3 c4 cz cf ho4 hb4 hr4 HS HRV; obtain ⟨c0, c1, c2, c3, c4, cz, cf⟩ := DBS.cells HS4.out; obtain ⟨n0, n1, n2, n3, n4, nz⟩ := dcr_cells HS4.out.non)
            go_quiet (fail)
            have HS5 : Hid (DBS w (V0 : Int) (V4 : Int) (V2 : Int) (V3 : Int) (.slice av' V5 cv') (RS V5) (w4.drewN nq)) := DBS.below HS4.out (below_drewN (Below.refl _ _) _)
            go_wp2_with (have _t := HS5; refine wpList_store_row rfl 24 _ _ rfl w.heap.size #[.int .i64 (V0 : Int), .int .i64 (V4 : Int), .int .i64 (V2 : Int), .int .i64 (V3 : Int), .slice av' V5 cv'] rfl rfl 24 _ HS5.out.res Tryd.info24 rfl (bat_one _ _ _ _ _ _ _) ?_)
            refine bodyPost_ret (v := .tuple #[.agg #[.int .i64 (V0 : Int), .int .i64 (V4 : Int), .int .i64 (V2 : Int), .int .i64 (V3 : Int), .slice av' V5 cv'], .int .i64 (Nn : Int), .int .i64 0]) ?_ rfl ⟨fun _ => ⟨av', cv', by rw [hrl], ?_, hnv⟩, fun h => absurd HOK.out h, ?_⟩
            · exact results_bat3 (p := 2) (u := 3) (u2 := 4) (by rfl) _ _ w.heap.size _ _ _ (by rfl) (by rfl) (by rfl) rfl (setRow_heap _ _ _ _ _ _ HS5.out.res)
            · exact RRow.keep' (RRow.below HRV4.out (below_drewN (Below.refl _ _) _)) HAV.out
            · exact below_setRow HS5.out.bel (Nat.le_refl _) _
          · have HNO : Hid (¬ OK) := HF3.out hE
            have hst := HSQ.out.1 hE
            clear HF1 HF2' HF3 HF4 HSQ hE
            generalize strN (l.take Nn) = S2 at *
            generalize strN EL = S1 at *
            rw [hIe]
            clear hIe hIk
            have hNe : ((Nn : Int) != (Nn : Int)) = false := by simp
            go_wp2_with (go_at_call 14; refine (HEN.out _ _ _ (Tab.below HT.out HS.out.bel) HRV.out).mono ?_; rintro e w4 ⟨v4, rfl, ho4, hb4⟩; obtain ⟨a4, q4, rfl, hr4, _⟩ := owns_sl ho4 HEL.out; have HS4 : Hid (DBS w (V0 : Int) (V4 : Int) (V2 : Int) (V3 : Int) (.slice av' V5 cv') (RS V5) w4) := DBS.below HS.out hb4; have kc1 : ∀ n, (convert 27 9 (.slice a4 EL.length q4)).run Tryd.prog (w4.drewN n) = .ok (.string S1) (w4.drewN n) := (fun n => HCW.out _ _ _ (Row.drewN hr4 n)); have kc2 : ∀ n, (convert 27 9 (.slice (some ⟨pb, poff, none⟩) Nn cap)).run Tryd.prog (w4.drewN n) = .ok (.string S2) (w4.drewN n) := (fun n => HCV.out _ (Row.drewN (Row.below HROW.out HS4.out.bel) n)); clear c0 c1 c2 c3 c4 cz cf ho4 hb4 hr4 HS HRV; obtain ⟨n0, n1, n2, n3, n4, nz⟩ := dcr_cells HS4.out.non)
            go_quiet (fail)
            have HS5 : Hid (DBS w (V0 : Int) (V4 : Int) (V2 : Int) (V3 : Int) (.slice av' V5 cv') (RS V5) (w4.drewN nq)) := DBS.below HS4.out (below_drewN (Below.refl _ _) _)
            go_wp2_with (have _t := HS5; refine wpList_store_row rfl 24 _ _ rfl w.heap.size #[.int .i64 0, .int .i64 0, .int .i64 0, .int .i64 0, .slice none 0 0] rfl rfl 24 _ HS5.out.res Tryd.info24 rfl (bat_one _ _ _ _ _ _ _) ?_)
            refine bodyPost_ret (v := .tuple #[.agg #[.int .i64 0, .int .i64 0, .int .i64 0, .int .i64 0, .slice none 0 0], .int .i64 0, .int .i64 10]) ?_ rfl ⟨fun h => absurd h HNO.out, fun _ => rfl, ?_⟩
            · exact results_bat3 (p := 2) (u := 3) (u2 := 4) (by rfl) _ _ w.heap.size _ _ _ (by rfl) (by rfl) (by rfl) rfl (setRow_heap _ _ _ _ _ _ HS5.out.res)
            · exact below_setRow HS5.out.bel (Nat.le_refl _) _
        · have HNO : Hid (¬ OK) := HF2'.out hIe
          have hNe : (((I V5 : Nat) : Int) != (Nn : Int)) = true := by rw [bne_iff_ne]; omega
          have hNe2 : (I V5 != Nn) = true := by rw [bne_iff_ne]; exact hIe
          clear HF1 HF2' HF3 HF4 HSQ hIe HCV HCW kt
          go_wp2_with (go_at_call 14; refine (HEN.out _ _ _ (Tab.below HT.out HS.out.bel) HRV.out).mono ?_; rintro e w4 ⟨v4, rfl, ho4, hb4⟩; obtain ⟨a4, q4, rfl, hr4, _⟩ := owns_sl ho4 HEL.out; have HS4 : Hid (DBS w (V0 : Int) (V4 : Int) (V2 : Int) (V3 : Int) (.slice av' V5 cv') (RS V5) w4) := DBS.below HS.out hb4; clear c0 c1 c2 c3 c4 cz cf ho4 hb4 hr4 HS HRV; obtain ⟨n0, n1, n2, n3, n4, nz⟩ := dcr_cells HS4.out.non)
          go_quiet (fail)
          have HS5 : Hid (DBS w (V0 : Int) (V4 : Int) (V2 : Int) (V3 : Int) (.slice av' V5 cv') (RS V5) (w4.drewN nq)) := DBS.below HS4.out (below_drewN (Below.refl _ _) _)
          go_wp2_with (have _t := HS5; refine wpList_store_row rfl 24 _ _ rfl w.heap.size #[.int .i64 0, .int .i64 0, .int .i64 0, .int .i64 0, .slice none 0 0] rfl rfl 24 _ HS5.out.res Tryd.info24 rfl (bat_one _ _ _ _ _ _ _) ?_)
          refine bodyPost_ret (v := .tuple #[.agg #[.int .i64 0, .int .i64 0, .int .i64 0, .int .i64 0, .slice none 0 0], .int .i64 0, .int .i64 10]) ?_ rfl ⟨fun h => absurd h HNO.out, fun _ => rfl, ?_⟩
          · exact results_bat3 (p := 2) (u := 3) (u2 := 4) (by rfl) _ _ w.heap.size _ _ _ (by rfl) (by rfl) (by rfl) rfl (setRow_heap _ _ _ _ _ _ HS5.out.res)
          · exact below_setRow HS5.out.bel (Nat.le_refl _) _
      · have HNO : Hid (¬ OK) := HF1.out hck
        have hcn : (ck != 0) = true := by rw [bne_iff_ne]; exact hck
        clear HF1 HF2' HF3 HF4 HSQ hck HCV HCW kt
        go_wp2_with (go_at_call 14; refine (HEN.out _ _ _ (Tab.below HT.out HS.out.bel) HRV.out).mono ?_; rintro e w4 ⟨v4, rfl, ho4, hb4⟩; obtain ⟨a4, q4, rfl, hr4, _⟩ := owns_sl ho4 HEL.out; have HS4 : Hid (DBS w (V0 : Int) (V4 : Int) (V2 : Int) (V3 : Int) (.slice av' V5 cv') (RS V5) w4) := DBS.below HS.out hb4; clear c0 c1 c2 c3 c4 cz cf ho4 hb4 hr4 HS HRV; obtain ⟨n0, n1, n2, n3, n4, nz⟩ := dcr_cells HS4.out.non)
        go_quiet (fail)
        have HS5 : Hid (DBS w (V0 : Int) (V4 : Int) (V2 : Int) (V3 : Int) (.slice av' V5 cv') (RS V5) (w4.drewN nq)) := DBS.below HS4.out (below_drewN (Below.refl _ _) _)
        go_wp2_with (have _t := HS5; refine wpList_store_row rfl 24 _ _ rfl w.heap.size #[.int .i64 0, .int .i64 0, .int .i64 0, .int .i64 0, .slice none 0 0] rfl rfl 24 _ HS5.out.res Tryd.info24 rfl (bat_one _ _ _ _ _ _ _) ?_)
        refine bodyPost_ret (v := .tuple #[.agg #[.int .i64 0, .int .i64 0, .int .i64 0, .int .i64 0, .slice none 0 0], .int .i64 0, .int .i64 10]) ?_ rfl ⟨fun h => absurd h HNO.out, fun _ => rfl, ?_⟩
        · exact results_bat3 (p := 2) (u := 3) (u2 := 4) (by rfl) _ _ w.heap.size _ _ _ (by rfl) (by rfl) (by rfl) rfl (setRow_heap _ _ _ _ _ _ HS5.out.res)
        · exact below_setRow HS5.out.bel (Nat.le_refl _) _
end Go.Proofs.YtgpeldmplkijlaaDoor
namespace Go.Proofs.YtgpeldmplkijlaaDoor
set_option linter.unusedSimpArgs false
set_option linter.unusedVariables false
open Go.RowKit
/-- Behind k rounds of the document's Put. -/
structure RputAt (l : List Nat) (p size : Nat) (big : Bool) (V k : Nat) (cur : List Nat) : Prop where
  len : cur.length = l.length
  at' : ∀ i, i < l.length → cur.getD i 0 = if p ≤ i ∧ i < p + k then V / 256 ^ plc size big (i - p) % 256 else l.getD i 0
theorem RputAt.step {l : List Nat} {p size : Nat} {big : Bool} {V k : Nat} {cur : List Nat} (h : RputAt l p size big V k cur) (hk : k < size) (hp : p + size ≤ l.length) :
    RputAt l p size big V (k + 1) (cur.set (p + k) (V / 256 ^ plc size big k % 256)) := by
  refine ⟨by simp [h.len], fun i hi => ?_⟩
  rw [getD_set _ _ _ _ (by rw [h.len]; exact hi), h.at' i hi]
  by_cases e : p + k = i
  · subst e
    rw [if_pos rfl, Nat.add_sub_cancel_left, if_pos (by omega)]
  · rw [if_neg e]
    by_cases hin : p ≤ i ∧ i < p + k
    · rw [if_pos hin, if_pos (by omega)]
    · rw [if_neg hin, if_neg (by omega)]
theorem RputAt.done {l : List Nat} {p size : Nat} {big : Bool} {V : Nat} {cur : List Nat} (h : RputAt l p size big V size cur) : cur = putL l p size big V := by
  apply list_ext (by rw [h.len, putL_length])
  intro i hi
  rw [h.len] at hi
  rw [h.at' i hi, putL_get _ _ _ _ _ _ hi]
set_option maxRecDepth 100000 in
set_option maxHeartbeats 800000 in
theorem rput_yes (a : Option Addr) (cap : Nat) (l : List Nat) (p size : Nat) (big : Bool) (V : Nat) (w : World) (hr : Row w a l) (hl : l.length ≤ 100000) (h1 : 1 ≤ size) (h2 : size ≤ 8) (h3 : p + size ≤ l.length) (hV : V ≤ 18446744073709551615) :
    Calls Tryd.prog 44 #[.slice a l.length cap, .int .i64 p, .int .i64 size, .bool big, .int .u64 V] w fun e w' =>
      (∃ g cap', e = .returned (.tuple #[.slice (some ⟨g, 0, none⟩) l.length cap', .bool true]) ∧ Own w.heap.size w' g cap' (putL l p size big V)) ∧ Below w.heap.size w w' := by
  obtain ⟨i0, hi, hz0, hz1, hz2⟩ := info_parts Tryd.info5
  have hnil := World.ownsRow_nil w w.heap.size 5 1
  obtain ⟨ad, rfl⟩ : ∃ ad, a = some ad := by obtain ⟨b, off, e, _⟩ := hr 0 (by omega); exact ⟨_, e⟩
  have hln : (cv l).length = l.length * 1 := by rw [cv_length]; omega
  have hnw := row_news hr
  have x1 : 0 + l.length ≤ maxLen := by unfold maxLen; omega
  have x2 : (0 + l.length) * 1 ≤ 140737488355328 := by omega
  have hpos : 0 < l.length := by omega
  go_enter Tryd.func44, Tryd.ntmps44
  go_wp2_with (first
    | (go_at_call 39; refine (rget_yes _ _ _ _ _ _ _ hr (by omega) h1 h2 h3).mono ?_; rintro e w' ⟨rfl, rfl⟩)
    | (at_builtin; refine wpList_append_own _ rfl (.tmp 27) (.tmp 28) 27 rfl _ 5 i0 (.int .u8 0) 1 1 Tryd.underlying27 hi hz0 hz1 hz2 rfl (by decide) (.slice none 0 0) 0 [] rfl hnil ad l.length cap (cv l) rfl hln hnw (cv_one _) x1 x2 (Nat.le_refl _) ?_; intro v1 w1 hown1 hg1 hz; have hb1 := own_bel hnil (Below.refl _ _) (Nat.le_refl _) hg1; rw [Nat.zero_add, List.nil_append] at hown1; obtain ⟨g, cap', rfl, hown⟩ := owns_some hown1 hpos; clear hnil hz hg1 hown1 hnw hln))
  go_loopw [15] (fun i wr => ∃ (k : Nat) (cur : List Nat), k ≤ size ∧ i = .int .i64 k ∧ RputAt l p size big V k cur ∧ Own _ wr g cap' cur ∧ Below _ _ wr) (fun i _ => size - (intOf i).toNat)
  case atStart => exact ⟨0, l, by omega, rfl, ⟨rfl, fun i hi => by rw [if_neg (by omega)]⟩, hown, hb1⟩
  case round =>
    obtain ⟨k, cur, hk, rfl, hat, hown, hbel⟩ := hrel
    clear hr
    by_cases hlt : k < size
    · have HN : Hid (RputAt l p size big V (k + 1) (cur.set (p + k) (V / 256 ^ plc size big k % 256))) := hat.step hlt h3
      have hcell := hown.cell (p + k) (by rw [hat.len]; omega)
      have hfree := hown.free (p + k)
      have hge := hown.ge
      have hby := byte_at V (plc size big k)
      have hltq : ((p : Int) + k) < (l.length : Int) := by omega
      generalize V / 256 ^ plc size big k % 256 = d at *
      generalize cur.getD (p + k) 0 = c0 at *
      clear hat
      cases big
      · have hby2 : (V : Int) / 2 ^ (8 * k) % 256 = (d : Int) := hby
        clear hby
        go_wp2
        exact ⟨⟨k + 1, cur.set (p + k) d, by omega, by go_num, HN.out, hown.store _ _, hbel.setCell hge.1 _⟩, by simp [intOf]; omega⟩
      · obtain ⟨q, hq⟩ := Int.eq_ofNat_of_zero_le (show 0 ≤ (size : Int) - 1 - (k : Int) by omega)
        have hby2 : (V : Int) / 2 ^ (8 * q) % 256 = (d : Int) := by
          rw [← hby]
          have : plc size true k = q := by simp only [plc, if_true]; omega
          rw [this]
        have hq8 : q < 8 := by omega
        clear hby
        go_wp2
        exact ⟨⟨k + 1, cur.set (p + k) d, by omega, by go_num, HN.out, hown.store _ _, hbel.setCell hge.1 _⟩, by simp [intOf]; omega⟩
    · obtain rfl : k = size := by omega
      have HD : Hid (cur = putL l p k big V) := hat.done
      have HLn : Hid (cur.length = l.length) := hat.len
      clear hat
      go_wp2
      go_ret2
      exact ⟨⟨g, _, rfl, by rw [← HD.out]; exact hown⟩, hbel⟩
/-- What Decode tells. -/
def DecP (l : List Nat) (w : World) (e : Ending) (w' : World) : Prop := DecQ (OkB l) (bOf l).base (bOf l).span (bOf l).prod (bOf l).seq (bOf l).rs (lenN l) w e w'
theorem part_len {l : List Nat} (h2 : lenN l ≤ l.length) : (partOf l).length = lenN l - 48 := by
  unfold partOf
  rw [List.length_drop, List.length_take]
  omega
theorem part_drop (l : List Nat) (k : Nat) : (l.take (lenN l)).drop (48 + k) = (partOf l).drop k := by
  unfold partOf
  rw [List.drop_drop]
theorem ql_len {l : List Nat} (hq : Ql l) (h48 : 48 ≤ l.length) : 48 ≤ lenN l ∧ lenN l ≤ l.length ∧ lenN l ≤ 6012 := by
  have hN : lenN l = 12 + getV l 8 4 true := rfl
  have hs1 := hq.s1
  have hs2 := hq.s2
  have hs3 := hq.s3
  clear hq
  rw [hN]
  clear hN
  generalize getV l 8 4 true = X at *
  omega
theorem rdb_call (pb poff cap : Nat) (l : List Nat) (Nn : Nat) (f : Int) (eN : lenN l = Nn) (hpm : ∀ x, x ∈ partOf l → x < 256) (h48 : 48 ≤ Nn) (hNl : Nn ≤ l.length) (hN6 : Nn ≤ 6012) (hl : l.length ≤ cap) (hc : cap ≤ maxLen) (k : Nat) (hal : AllOk (partOf l) f k) (y : World) (hy : Row y (some ⟨pb, poff, none⟩) l) :
    Calls Tryd.prog 41 #[.slice (cutA (some ⟨pb, poff, none⟩) cap (48 + pos (partOf l) f k)) (Nn - (48 + pos (partOf l) f k)) (cap - (48 + pos (partOf l) f k)), .int .i64 f] y fun e w' => e = .returned (.tuple #[.agg (decR (rest (partOf l) f k) f).cells, .int .i64 ((decN (rest (partOf l) f k) f : Nat) : Int), .int .i64 (decE (rest (partOf l) f k) f)]) ∧ Below y.heap.size y w' := by
  have hpl : (partOf l).length = Nn - 48 := by rw [part_len (by rw [eN]; exact hNl), eN]
  obtain ⟨hd, hpo⟩ := rest_drop hpm k hal
  have hrow := row_cut cap (48 + pos (partOf l) f k) (row_take (lenN l) hy) (by rw [List.length_take, eN]; omega)
  rw [part_drop, ← hd] at hrow
  have hlen : (rest (partOf l) f k).length = Nn - (48 + pos (partOf l) f k) := by rw [hd, List.length_drop, hpl]; omega
  have h5 := rdecode_any _ (cap - (48 + pos (partOf l) f k)) _ f y hrow (by omega) (by omega) (by omega)
  rw [hlen] at h5
  exact h5
theorem ql_pos {l : List Nat} {f : Int} {k : Nat} {Nn : Nat} (eN : lenN l = Nn) (hpm : ∀ x, x ∈ partOf l → x < 256) (h48 : 48 ≤ Nn) (hNl : Nn ≤ l.length) (hal : AllOk (partOf l) f k) : 48 + pos (partOf l) f k ≤ Nn ∧ (rest (partOf l) f k = [] → 48 + pos (partOf l) f k = Nn) := by
  have hpl : (partOf l).length = Nn - 48 := by rw [part_len (by rw [eN]; exact hNl), eN]
  obtain ⟨hd, hpo⟩ := rest_drop hpm k hal
  refine ⟨by omega, fun h => ?_⟩
  rw [hd] at h
  have h3 := List.drop_eq_nil_iff.1 h
  omega
theorem rdb_ql (pb poff cap : Nat) (l : List Nat) (w : World) (ht : Tab w) (hr : Row w (some ⟨pb, poff, none⟩) l) (hl : l.length ≤ cap) (hc : cap ≤ maxLen) (hl2 : l.length ≤ 8000) (h48 : 48 ≤ l.length) (hq : Ql l) :
    Calls Tryd.prog 19 #[.slice (some ⟨pb, poff, none⟩) l.length cap] w fun e w' => DecP l w e w' := by
  obtain ⟨eb, ef⟩ := ql_b hq
  have hmem : ∀ x, x ∈ l → x < 256 := mem_lt hr.lt
  have hpm : ∀ x, x ∈ partOf l → x < 256 := fun x hx => hmem x (List.mem_of_mem_take (List.mem_of_mem_drop hx))
  obtain ⟨hN48, hNl, hN6⟩ := ql_len hq h48
  have hin : In64B (bOf l) := ⟨(bd64 (wrap64_wf _)).2, (bd64 (wrap64_wf _)).2⟩
  have hrl : (bOf l).rs.length ≤ maxLen := Nat.le_trans (Nat.le_of_eq (recs_len _ _ _)) (Nat.le_trans hq.c2 (by decide))
  have hEB : ∀ i, (encBR (bOf l)).getD i 0 < 256 := by
    unfold encBR
    split
    · rename_i h; exact lt_mem (encB_mem (chk_parts h).1)
    · intro i; simp
  obtain ⟨F, HF⟩ : ∃ F : Int, Hid (((getV l 40 8 true : Nat) : Int) = F) := ⟨_, rfl⟩
  have hcall := fun k hal y hy => rdb_call pb poff cap l (lenN l) ((getV l 40 8 true : Nat) : Int) rfl hpm hN48 hNl hN6 hl hc k hal y hy
  have hpos := fun k hal => ql_pos (l := l) (f := ((getV l 40 8 true : Nat) : Int)) (k := k) rfl hpm hN48 hNl hal
  unfold DecP
  have key := rdb_in pb poff cap l w hr hl hc hl2 h48 (OkB l) (getV l 0 8 true) (getV l 8 4 true) (getV l 16 8 true) (getV l 24 8 true) (getV l 32 4 true) (getV l 36 4 true) (getV l 40 8 true) (lenN l)
    (fun k => recs (partOf l) (getV l 40 8 true : Nat) k) (fun k => 48 + pos (partOf l) (getV l 40 8 true : Nat) k) (fun _ => []) (fun k => rcOf (rest (partOf l) (getV l 40 8 true : Nat) k) (getV l 40 8 true : Nat)) (fun k => decN (rest (partOf l) (getV l 40 8 true : Nat) k) (getV l 40 8 true : Nat)) (encBR (bOf l)) (chkB (bOf l))
    (fun y hy => rget_yes (some ⟨pb, poff, none⟩) cap l 0 8 true y hy (by omega) (by decide) (by decide) (by omega))
    (fun y hy => rget_yes (some ⟨pb, poff, none⟩) cap l 8 4 true y hy (by omega) (by decide) (by decide) (by omega))
    (fun y hy => rget_yes (some ⟨pb, poff, none⟩) cap l 16 8 true y hy (by omega) (by decide) (by decide) (by omega))
    (fun y hy => rget_yes (some ⟨pb, poff, none⟩) cap l 24 8 true y hy (by omega) (by decide) (by decide) (by omega))
    (fun y hy => rget_yes (some ⟨pb, poff, none⟩) cap l 32 4 true y hy (by omega) (by decide) (by decide) (by omega))
    (fun y hy => rget_yes (some ⟨pb, poff, none⟩) cap l 36 4 true y hy (by omega) (by decide) (by decide) (by omega))
    (fun y hy => rget_yes (some ⟨pb, poff, none⟩) cap l 40 8 true y hy (by omega) (by decide) (by decide) (by omega))
    hq.s1 hq.s2 hq.s3 hq.bs hq.pr hq.sq hq.sp hq.c1 hq.c2 hq.fi rfl rfl rfl (fun k => recs_len _ _ _)
    (fun k => okD (rest (partOf l) (getV l 40 8 true : Nat) k) (getV l 40 8 true : Nat) = true) (fun k => AllOk (partOf l) (getV l 40 8 true : Nat) k) (fun j hj => by omega)
    (fun k _ hal => (hpos k hal).1)
    (fun k hk hal hok => ⟨all_succ hal hok, (congrArg (48 + ·) (pos_succ hpm k hok)).trans (Nat.add_assoc _ _ _).symm, recs_succ _ _ _, fun y hy => by
      have h1 := hcall k hal y hy
      unfold decR decE at h1
      rw [if_pos hok, if_pos hok] at h1
      exact h1⟩)
    (fun k hk hal hok => ⟨fun h => hok (by have h1 := h.all k hk; rw [ef] at h1; exact h1), fun y hy => by
      have h1 := hcall k hal y hy
      unfold decR decE decN at h1
      rw [if_neg hok, if_neg hok, if_neg hok] at h1
      exact h1⟩)
    (fun x a' c' h1 h2 => by
      have h3 := rencodeB_any (bOf l) a' c' hin hrl x h1 (by rw [eb]; exact h2)
      rw [show bav (bOf l) a' c' = .agg #[.int .i64 ((getV l 0 8 true : Nat) : Int), .int .i64 ((getV l 32 4 true : Nat) : Int), .int .i64 ((getV l 16 8 true : Nat) : Int), .int .i64 ((getV l 24 8 true : Nat) : Int), .slice a' (getV l 36 4 true) c'] by rw [eb]; simp only [bav, recs_len]] at h3
      exact h3)
    hEB (fun h hok => h (okB_enc hmem hok).2.1)
    (fun hal h hok => h (by
      have h1 := hok.fin
      rw [ef] at h1
      exact (hpos _ hal).2 h1))
    (fun h hok => h (by have h1 := okB_enc hmem hok; unfold encBR; rw [if_pos h1.2.1]; exact h1.1.symm))
    (fun h hck => ql_iff hmem hck (by unfold encBR at h; rw [if_pos hck] at h; exact h)) ht
  have e0 : (bOf l).base = ((getV l 0 8 true : Nat) : Int) := by rw [eb]
  have e1 : (bOf l).span = ((getV l 32 4 true : Nat) : Int) := by rw [eb]
  have e2 : (bOf l).prod = ((getV l 16 8 true : Nat) : Int) := by rw [eb]
  have e3 : (bOf l).seq = ((getV l 24 8 true : Nat) : Int) := by rw [eb]
  have e4 : (bOf l).rs = recs (partOf l) (getV l 40 8 true : Nat) (getV l 36 4 true) := by rw [eb]
  rw [e0, e1, e2, e3, e4]
  exact key
set_option maxRecDepth 100000 in
theorem rdb_short (a : Option Addr) (cap n : Nat) (w : World) (hn : n < 48) :
    Calls Tryd.prog 19 #[.slice a n cap] w fun e w' => e = .returned (.tuple #[.agg #[.int .i64 0, .int .i64 0, .int .i64 0, .int .i64 0, .slice none 0 0], .int .i64 0, .int .i64 10]) ∧ Below w.heap.size w w' := by
  have hnI : (n : Int) < 48 := by omega
  have hnd : decide ((n : Int) < 48) = true := decide_eq_true hnI
  have HT : Hid (Below w.heap.size w ((w.alloc (.cells #[.int .i64 0, .int .i64 0, .int .i64 0, .int .i64 0, .slice none 0 0] 24)).alloc (.cells #[.int .i64 0, .int .i64 0, .int .i64 0, .int .i64 0, .slice none 0 0] 24)) ∧ ((w.alloc (.cells #[.int .i64 0, .int .i64 0, .int .i64 0, .int .i64 0, .slice none 0 0] 24)).alloc (.cells #[.int .i64 0, .int .i64 0, .int .i64 0, .int .i64 0, .slice none 0 0] 24)).heap[w.heap.size]? = some (.cells #[.int .i64 0, .int .i64 0, .int .i64 0, .int .i64 0, .slice none 0 0] 24 (0, 0))) := by
    refine ⟨(below_box _).trans ((below_box _).mono (by simp)), ?_⟩
    rw [(below_box (w := w.alloc (.cells #[.int .i64 0, .int .i64 0, .int .i64 0, .int .i64 0, .slice none 0 0] 24)) _).block w.heap.size (by simp)]
    exact heap_alloc_new w _
  go_enter Tryd.func19, Tryd.ntmps19
  go_wp2_with (have _t := hnI; refine wpList_store_row rfl 24 _ _ rfl w.heap.size #[.int .i64 0, .int .i64 0, .int .i64 0, .int .i64 0, .slice none 0 0] rfl rfl 24 _ HT.out.2 Tryd.info24 rfl (bat_one _ _ _ _ _ _ _) ?_)
  refine bodyPost_ret (v := .tuple #[.agg #[.int .i64 0, .int .i64 0, .int .i64 0, .int .i64 0, .slice none 0 0], .int .i64 0, .int .i64 10]) ?_ rfl ⟨rfl, ?_⟩
  · exact results_bat3 (p := 2) (u := 3) (u2 := 4) (by rfl) _ _ w.heap.size _ _ _ (by rfl) (by rfl) (by rfl) rfl (setRow_heap _ _ _ _ _ _ HT.out.2)
  · exact below_setRow HT.out.1 (Nat.le_refl _) _
theorem rrow_res {x : World} {R : Nat} {a : Option Addr} {rs : List Rc} {cs : Array Value} (hg : x.heap[R]? = some (.cells #[.int .i64 0, .int .i64 0, .int .i64 0, .int .i64 0, .slice none 0 0] 24 (0, 0))) (hr : RRow x a rs) : RRow (x.setRow R cs) a rs := by
  intro i hi
  obtain ⟨g, off, e, h0, h1, h2, h3, h4, h5⟩ := hr i hi
  have hne : g ≠ R := by
    intro c
    subst c
    rw [cell_of_row x _ _ _ 24 (0, 0) hg] at h0
    generalize off + i * 6 = k at h0
    match k with
    | 0 => simp at h0
    | 1 => simp at h0
    | 2 => simp at h0
    | 3 => simp at h0
    | 4 => simp at h0
    | k + 5 => simp at h0
  exact ⟨g, off, e, (cell_setRow_ne hne).trans h0, (cell_setRow_ne hne).trans h1, (cell_setRow_ne hne).trans h2, (cell_setRow_ne hne).trans h3, (cell_setRow_ne hne).trans h4, (cell_setRow_ne hne).trans h5⟩
set_option maxHeartbeats 6400000 in
set_option maxRecDepth 100000 in
theorem rdb_ref (pb poff cap : Nat) (l : List Nat) (w : World) (hr : Row w (some ⟨pb, poff, none⟩) l) (hl2 : l.length ≤ 8000) (h48 : 48 ≤ l.length) (ht : Tab w)
    (V0 V1 V2 V3 V4 V5 V6 : Nat) (x0 x1 x2 x3 M E : Int) (RS : List Rc) (T : Option Addr → Nat → Prop)
    (HG0 : Hid (∀ y, Row y (some ⟨pb, poff, none⟩) l → Calls Tryd.prog 39 #[.slice (some ⟨pb, poff, none⟩) l.length cap, .int .i64 0, .int .i64 8, .bool true] y fun e w' => e = .returned (.tuple #[.int .u64 (V0 : Int), .bool true]) ∧ w' = y))
    (HG1 : Hid (∀ y, Row y (some ⟨pb, poff, none⟩) l → Calls Tryd.prog 39 #[.slice (some ⟨pb, poff, none⟩) l.length cap, .int .i64 8, .int .i64 4, .bool true] y fun e w' => e = .returned (.tuple #[.int .u64 (V1 : Int), .bool true]) ∧ w' = y))
    (HG2 : Hid (∀ y, Row y (some ⟨pb, poff, none⟩) l → Calls Tryd.prog 39 #[.slice (some ⟨pb, poff, none⟩) l.length cap, .int .i64 16, .int .i64 8, .bool true] y fun e w' => e = .returned (.tuple #[.int .u64 (V2 : Int), .bool true]) ∧ w' = y))
    (HG3 : Hid (∀ y, Row y (some ⟨pb, poff, none⟩) l → Calls Tryd.prog 39 #[.slice (some ⟨pb, poff, none⟩) l.length cap, .int .i64 24, .int .i64 8, .bool true] y fun e w' => e = .returned (.tuple #[.int .u64 (V3 : Int), .bool true]) ∧ w' = y))
    (HG4 : Hid (∀ y, Row y (some ⟨pb, poff, none⟩) l → Calls Tryd.prog 39 #[.slice (some ⟨pb, poff, none⟩) l.length cap, .int .i64 32, .int .i64 4, .bool true] y fun e w' => e = .returned (.tuple #[.int .u64 (V4 : Int), .bool true]) ∧ w' = y))
    (HG5 : Hid (∀ y, Row y (some ⟨pb, poff, none⟩) l → Calls Tryd.prog 39 #[.slice (some ⟨pb, poff, none⟩) l.length cap, .int .i64 36, .int .i64 4, .bool true] y fun e w' => e = .returned (.tuple #[.int .u64 (V5 : Int), .bool true]) ∧ w' = y))
    (HG6 : Hid (∀ y, Row y (some ⟨pb, poff, none⟩) l → Calls Tryd.prog 39 #[.slice (some ⟨pb, poff, none⟩) l.length cap, .int .i64 40, .int .i64 8, .bool true] y fun e w' => e = .returned (.tuple #[.int .u64 (V6 : Int), .bool true]) ∧ w' = y))
    (HH : Hid (∀ y, Tab y → Row y (some ⟨pb, poff, none⟩) l → Calls Tryd.prog 40 #[.slice (some ⟨pb, poff, none⟩) l.length cap, .int .u64 (V0 : Int), .int .u64 (V1 : Int), .int .u64 (V2 : Int), .int .u64 (V3 : Int)] y fun e w' => ∃ a' c', e = .returned (.tuple #[.agg #[.int .i64 x0, .int .i64 x1, .int .i64 x2, .int .i64 x3, .slice a' RS.length c'], .int .i64 M, .int .i64 E]) ∧ RRow w' a' RS ∧ T a' c' ∧ Below y.heap.size y w'))
    (hno : ¬ (36 ≤ V1 ∧ V1 ≤ l.length - 12 ∧ V1 ≤ 6000 ∧ V0 ≤ 1125899906842624 ∧ V2 ≤ 4611686018427387904 ∧ V3 ≤ 4611686018427387904 ∧ V4 ≤ 100 ∧ 1 ≤ V5 ∧ V5 ≤ 100 ∧ V6 ≤ 1125899906842624)) :
    Calls Tryd.prog 19 #[.slice (some ⟨pb, poff, none⟩) l.length cap] w fun e w' => ∃ a' c', e = .returned (.tuple #[.agg #[.int .i64 x0, .int .i64 x1, .int .i64 x2, .int .i64 x3, .slice a' RS.length c'], .int .i64 M, .int .i64 E]) ∧ RRow w' a' RS ∧ T a' c' ∧ Below w.heap.size w w' := by
  have HROW : Hid (Row w (some ⟨pb, poff, none⟩) l) := hr
  have HT : Hid (Tab w) := ht
  have HW2 : Hid (∀ o1 o2, Below w.heap.size w ((w.alloc o1).alloc o2)) := fun o1 o2 => (below_box o1).trans ((below_box o2).mono (by simp))
  have HW3 : Hid (∀ o2 y, Below ((w.alloc (.cells #[.int .i64 0, .int .i64 0, .int .i64 0, .int .i64 0, .slice none 0 0] 24)).alloc o2).heap.size ((w.alloc (.cells #[.int .i64 0, .int .i64 0, .int .i64 0, .int .i64 0, .slice none 0 0] 24)).alloc o2) y → y.heap[w.heap.size]? = some (.cells #[.int .i64 0, .int .i64 0, .int .i64 0, .int .i64 0, .slice none 0 0] 24 (0, 0)) ∧ Below w.heap.size w y) := by
    intro o2 y hb
    refine ⟨?_, (HW2.out _ _).trans (hb.mono (by simp; omega))⟩
    rw [hb.block w.heap.size (by simp; omega), (below_box (w := w.alloc (.cells #[.int .i64 0, .int .i64 0, .int .i64 0, .int .i64 0, .slice none 0 0] 24)) _).block w.heap.size (by simp)]
    exact heap_alloc_new w _
  obtain ⟨Zn, HZ⟩ : ∃ Zn : Nat, Hid (l.length - 12 = Zn) := ⟨_, rfl⟩
  rw [HZ.out] at hno
  have z1 : IntKind.i64.wrap ((l.length : Int) - 12) = (Zn : Int) := by have := HZ.out; rw [IntKind.wrap_i64]; omega
  have z2 : IntKind.u64.wrap (Zn : Int) = (Zn : Int) := by have := HZ.out; rw [IntKind.wrap_u64]; omega
  have hl48 : ¬ (l.length : Int) < 48 := by omega
  have hl48d : decide ((l.length : Int) < 48) = false := decide_eq_false hl48
  clear hr ht h48
  have tok0 : True := trivial
  have tok1 : True := trivial
  have tok2 : True := trivial
  have tok3 : True := trivial
  have tok4 : True := trivial
  have tok5 : True := trivial
  have tok6 : True := trivial
  by_cases q0 : (V1 : Int) < 36
  · have d0 : decide ((V1 : Int) < 36) = true := decide_eq_true q0
    as_aux_lemma =>
      clear hno
      go_enter Tryd.func19, Tryd.ntmps19
      go_wp2_with (first
          | (go_at_call 39; have _t := tok0; refine (HG0.out _ (Row.below HROW.out (HW2.out _ _))).mono ?_; clear tok0 _t; rintro e wg ⟨rfl, hw⟩; subst wg)
          | (go_at_call 39; have _t := tok1; refine (HG1.out _ (Row.below HROW.out (HW2.out _ _))).mono ?_; clear tok1 _t; rintro e wg ⟨rfl, hw⟩; subst wg)
          | (go_at_call 39; have _t := tok2; refine (HG2.out _ (Row.below HROW.out (HW2.out _ _))).mono ?_; clear tok2 _t; rintro e wg ⟨rfl, hw⟩; subst wg)
          | (go_at_call 39; have _t := tok3; refine (HG3.out _ (Row.below HROW.out (HW2.out _ _))).mono ?_; clear tok3 _t; rintro e wg ⟨rfl, hw⟩; subst wg)
          | (go_at_call 39; have _t := tok4; refine (HG4.out _ (Row.below HROW.out (HW2.out _ _))).mono ?_; clear tok4 _t; rintro e wg ⟨rfl, hw⟩; subst wg)
          | (go_at_call 39; have _t := tok5; refine (HG5.out _ (Row.below HROW.out (HW2.out _ _))).mono ?_; clear tok5 _t; rintro e wg ⟨rfl, hw⟩; subst wg)
          | (go_at_call 39; have _t := tok6; refine (HG6.out _ (Row.below HROW.out (HW2.out _ _))).mono ?_; clear tok6 _t; rintro e wg ⟨rfl, hw⟩; subst wg)
          | (go_at_call 40; refine (HH.out _ (Tab.below HT.out (HW2.out _ _)) (Row.below HROW.out (HW2.out _ _))).mono ?_; rintro e w3 ⟨a3, c3, rfl, hr3, hn3, hb3⟩; have HRES : Hid (w3.heap[w.heap.size]? = some (.cells #[.int .i64 0, .int .i64 0, .int .i64 0, .int .i64 0, .slice none 0 0] 24 (0, 0)) ∧ Below w.heap.size w w3) := HW3.out _ _ hb3; have HR3 : Hid (RRow w3 a3 RS) := hr3; clear hb3 hr3)
          | (have _t := HRES; refine wpList_store_row rfl 24 _ _ rfl w.heap.size #[.int .i64 x0, .int .i64 x1, .int .i64 x2, .int .i64 x3, .slice a3 RS.length c3] rfl rfl 24 _ HRES.out.1 Tryd.info24 rfl (bat_one _ _ _ _ _ _ _) ?_))
      refine bodyPost_ret (v := .tuple #[.agg #[.int .i64 x0, .int .i64 x1, .int .i64 x2, .int .i64 x3, .slice a3 RS.length c3], .int .i64 M, .int .i64 E]) ?_ rfl ⟨a3, c3, rfl, rrow_res HRES.out.1 HR3.out, hn3, below_setRow HRES.out.2 (Nat.le_refl _) _⟩
      exact results_bat3 (p := 2) (u := 3) (u2 := 4) (by rfl) _ _ w.heap.size _ _ _ (by rfl) (by rfl) (by rfl) rfl (setRow_heap _ _ _ _ _ _ HRES.out.1)
  · have d0 : decide ((V1 : Int) < 36) = false := decide_eq_false q0
    by_cases q1 : Zn < V1
    · have d1 : decide (Zn < V1) = true := decide_eq_true q1
      as_aux_lemma =>
        clear hno
        go_enter Tryd.func19, Tryd.ntmps19
        go_wp2_with (first
            | (go_at_call 39; have _t := tok0; refine (HG0.out _ (Row.below HROW.out (HW2.out _ _))).mono ?_; clear tok0 _t; rintro e wg ⟨rfl, hw⟩; subst wg)
            | (go_at_call 39; have _t := tok1; refine (HG1.out _ (Row.below HROW.out (HW2.out _ _))).mono ?_; clear tok1 _t; rintro e wg ⟨rfl, hw⟩; subst wg)
            | (go_at_call 39; have _t := tok2; refine (HG2.out _ (Row.below HROW.out (HW2.out _ _))).mono ?_; clear tok2 _t; rintro e wg ⟨rfl, hw⟩; subst wg)
            | (go_at_call 39; have _t := tok3; refine (HG3.out _ (Row.below HROW.out (HW2.out _ _))).mono ?_; clear tok3 _t; rintro e wg ⟨rfl, hw⟩; subst wg)
            | (go_at_call 39; have _t := tok4; refine (HG4.out _ (Row.below HROW.out (HW2.out _ _))).mono ?_; clear tok4 _t; rintro e wg ⟨rfl, hw⟩; subst wg)
            | (go_at_call 39; have _t := tok5; refine (HG5.out _ (Row.below HROW.out (HW2.out _ _))).mono ?_; clear tok5 _t; rintro e wg ⟨rfl, hw⟩; subst wg)
            | (go_at_call 39; have _t := tok6; refine (HG6.out _ (Row.below HROW.out (HW2.out _ _))).mono ?_; clear tok6 _t; rintro e wg ⟨rfl, hw⟩; subst wg)
            | (go_at_call 40; refine (HH.out _ (Tab.below HT.out (HW2.out _ _)) (Row.below HROW.out (HW2.out _ _))).mono ?_; rintro e w3 ⟨a3, c3, rfl, hr3, hn3, hb3⟩; have HRES : Hid (w3.heap[w.heap.size]? = some (.cells #[.int .i64 0, .int .i64 0, .int .i64 0, .int .i64 0, .slice none 0 0] 24 (0, 0)) ∧ Below w.heap.size w w3) := HW3.out _ _ hb3; have HR3 : Hid (RRow w3 a3 RS) := hr3; clear hb3 hr3)
            | (have _t := HRES; refine wpList_store_row rfl 24 _ _ rfl w.heap.size #[.int .i64 x0, .int .i64 x1, .int .i64 x2, .int .i64 x3, .slice a3 RS.length c3] rfl rfl 24 _ HRES.out.1 Tryd.info24 rfl (bat_one _ _ _ _ _ _ _) ?_))
        refine bodyPost_ret (v := .tuple #[.agg #[.int .i64 x0, .int .i64 x1, .int .i64 x2, .int .i64 x3, .slice a3 RS.length c3], .int .i64 M, .int .i64 E]) ?_ rfl ⟨a3, c3, rfl, rrow_res HRES.out.1 HR3.out, hn3, below_setRow HRES.out.2 (Nat.le_refl _) _⟩
        exact results_bat3 (p := 2) (u := 3) (u2 := 4) (by rfl) _ _ w.heap.size _ _ _ (by rfl) (by rfl) (by rfl) rfl (setRow_heap _ _ _ _ _ _ HRES.out.1)
    · have d1 : decide (Zn < V1) = false := decide_eq_false q1
      by_cases q2 : (6000 : Int) < (V1 : Int)
      · have d2 : decide ((6000 : Int) < (V1 : Int)) = true := decide_eq_true q2
        as_aux_lemma =>
          clear hno
          go_enter Tryd.func19, Tryd.ntmps19
          go_wp2_with (first
              | (go_at_call 39; have _t := tok0; refine (HG0.out _ (Row.below HROW.out (HW2.out _ _))).mono ?_; clear tok0 _t; rintro e wg ⟨rfl, hw⟩; subst wg)
              | (go_at_call 39; have _t := tok1; refine (HG1.out _ (Row.below HROW.out (HW2.out _ _))).mono ?_; clear tok1 _t; rintro e wg ⟨rfl, hw⟩; subst wg)
              | (go_at_call 39; have _t := tok2; refine (HG2.out _ (Row.below HROW.out (HW2.out _ _))).mono ?_; clear tok2 _t; rintro e wg ⟨rfl, hw⟩; subst wg)
              | (go_at_call 39; have _t := tok3; refine (HG3.out _ (Row.below HROW.out (HW2.out _ _))).mono ?_; clear tok3 _t; rintro e wg ⟨rfl, hw⟩; subst wg)
              | (go_at_call 39; have _t := tok4; refine (HG4.out _ (Row.below HROW.out (HW2.out _ _))).mono ?_; clear tok4 _t; rintro e wg ⟨rfl, hw⟩; subst wg)
              | (go_at_call 39; have _t := tok5; refine (HG5.out _ (Row.below HROW.out (HW2.out _ _))).mono ?_; clear tok5 _t; rintro e wg ⟨rfl, hw⟩; subst wg)
              | (go_at_call 39; have _t := tok6; refine (HG6.out _ (Row.below HROW.out (HW2.out _ _))).mono ?_; clear tok6 _t; rintro e wg ⟨rfl, hw⟩; subst wg)
              | (go_at_call 40; refine (HH.out _ (Tab.below HT.out (HW2.out _ _)) (Row.below HROW.out (HW2.out _ _))).mono ?_; rintro e w3 ⟨a3, c3, rfl, hr3, hn3, hb3⟩; have HRES : Hid (w3.heap[w.heap.size]? = some (.cells #[.int .i64 0, .int .i64 0, .int .i64 0, .int .i64 0, .slice none 0 0] 24 (0, 0)) ∧ Below w.heap.size w w3) := HW3.out _ _ hb3; have HR3 : Hid (RRow w3 a3 RS) := hr3; clear hb3 hr3)
              | (have _t := HRES; refine wpList_store_row rfl 24 _ _ rfl w.heap.size #[.int .i64 x0, .int .i64 x1, .int .i64 x2, .int .i64 x3, .slice a3 RS.length c3] rfl rfl 24 _ HRES.out.1 Tryd.info24 rfl (bat_one _ _ _ _ _ _ _) ?_))
          refine bodyPost_ret (v := .tuple #[.agg #[.int .i64 x0, .int .i64 x1, .int .i64 x2, .int .i64 x3, .slice a3 RS.length c3], .int .i64 M, .int .i64 E]) ?_ rfl ⟨a3, c3, rfl, rrow_res HRES.out.1 HR3.out, hn3, below_setRow HRES.out.2 (Nat.le_refl _) _⟩
          exact results_bat3 (p := 2) (u := 3) (u2 := 4) (by rfl) _ _ w.heap.size _ _ _ (by rfl) (by rfl) (by rfl) rfl (setRow_heap _ _ _ _ _ _ HRES.out.1)
      · have d2 : decide ((6000 : Int) < (V1 : Int)) = false := decide_eq_false q2
        by_cases q3 : (1125899906842624 : Int) < (V0 : Int)
        · have d3 : decide ((1125899906842624 : Int) < (V0 : Int)) = true := decide_eq_true q3
          as_aux_lemma =>
            clear hno
            go_enter Tryd.func19, Tryd.ntmps19
            go_wp2_with (first
                | (go_at_call 39; have _t := tok0; refine (HG0.out _ (Row.below HROW.out (HW2.out _ _))).mono ?_; clear tok0 _t; rintro e wg ⟨rfl, hw⟩; subst wg)
                | (go_at_call 39; have _t := tok1; refine (HG1.out _ (Row.below HROW.out (HW2.out _ _))).mono ?_; clear tok1 _t; rintro e wg ⟨rfl, hw⟩; subst wg)
                | (go_at_call 39; have _t := tok2; refine (HG2.out _ (Row.below HROW.out (HW2.out _ _))).mono ?_; clear tok2 _t; rintro e wg ⟨rfl, hw⟩; subst wg)
                | (go_at_call 39; have _t := tok3; refine (HG3.out _ (Row.below HROW.out (HW2.out _ _))).mono ?_; clear tok3 _t; rintro e wg ⟨rfl, hw⟩; subst wg)
                | (go_at_call 39; have _t := tok4; refine (HG4.out _ (Row.below HROW.out (HW2.out _ _))).mono ?_; clear tok4 _t; rintro e wg ⟨rfl, hw⟩; subst wg)
                | (go_at_call 39; have _t := tok5; refine (HG5.out _ (Row.below HROW.out (HW2.out _ _))).mono ?_; clear tok5 _t; rintro e wg ⟨rfl, hw⟩; subst wg)
                | (go_at_call 39; have _t := tok6; refine (HG6.out _ (Row.below HROW.out (HW2.out _ _))).mono ?_; clear tok6 _t; rintro e wg ⟨rfl, hw⟩; subst wg)
                | (go_at_call 40; refine (HH.out _ (Tab.below HT.out (HW2.out _ _)) (Row.below HROW.out (HW2.out _ _))).mono ?_; rintro e w3 ⟨a3, c3, rfl, hr3, hn3, hb3⟩; have HRES : Hid (w3.heap[w.heap.size]? = some (.cells #[.int .i64 0, .int .i64 0, .int .i64 0, .int .i64 0, .slice none 0 0] 24 (0, 0)) ∧ Below w.heap.size w w3) := HW3.out _ _ hb3; have HR3 : Hid (RRow w3 a3 RS) := hr3; clear hb3 hr3)
                | (have _t := HRES; refine wpList_store_row rfl 24 _ _ rfl w.heap.size #[.int .i64 x0, .int .i64 x1, .int .i64 x2, .int .i64 x3, .slice a3 RS.length c3] rfl rfl 24 _ HRES.out.1 Tryd.info24 rfl (bat_one _ _ _ _ _ _ _) ?_))
            refine bodyPost_ret (v := .tuple #[.agg #[.int .i64 x0, .int .i64 x1, .int .i64 x2, .int .i64 x3, .slice a3 RS.length c3], .int .i64 M, .int .i64 E]) ?_ rfl ⟨a3, c3, rfl, rrow_res HRES.out.1 HR3.out, hn3, below_setRow HRES.out.2 (Nat.le_refl _) _⟩
            exact results_bat3 (p := 2) (u := 3) (u2 := 4) (by rfl) _ _ w.heap.size _ _ _ (by rfl) (by rfl) (by rfl) rfl (setRow_heap _ _ _ _ _ _ HRES.out.1)
        · have d3 : decide ((1125899906842624 : Int) < (V0 : Int)) = false := decide_eq_false q3
          by_cases q4 : (4611686018427387904 : Int) < (V2 : Int)
          · have d4 : decide ((4611686018427387904 : Int) < (V2 : Int)) = true := decide_eq_true q4
            as_aux_lemma =>
              clear hno
              go_enter Tryd.func19, Tryd.ntmps19
              go_wp2_with (first
                  | (go_at_call 39; have _t := tok0; refine (HG0.out _ (Row.below HROW.out (HW2.out _ _))).mono ?_; clear tok0 _t; rintro e wg ⟨rfl, hw⟩; subst wg)
                  | (go_at_call 39; have _t := tok1; refine (HG1.out _ (Row.below HROW.out (HW2.out _ _))).mono ?_; clear tok1 _t; rintro e wg ⟨rfl, hw⟩; subst wg)
                  | (go_at_call 39; have _t := tok2; refine (HG2.out _ (Row.below HROW.out (HW2.out _ _))).mono ?_; clear tok2 _t; rintro e wg ⟨rfl, hw⟩; subst wg)
                  | (go_at_call 39; have _t := tok3; refine (HG3.out _ (Row.below HROW.out (HW2.out _ _))).mono ?_; clear tok3 _t; rintro e wg ⟨rfl, hw⟩; subst wg)
                  | (go_at_call 39; have _t := tok4; refine (HG4.out _ (Row.below HROW.out (HW2.out _ _))).mono ?_; clear tok4 _t; rintro e wg ⟨rfl, hw⟩; subst wg)
                  | (go_at_call 39; have _t := tok5; refine (HG5.out _ (Row.below HROW.out (HW2.out _ _))).mono ?_; clear tok5 _t; rintro e wg ⟨rfl, hw⟩; subst wg)
                  | (go_at_call 39; have _t := tok6; refine (HG6.out _ (Row.below HROW.out (HW2.out _ _))).mono ?_; clear tok6 _t; rintro e wg ⟨rfl, hw⟩; subst wg)
                  | (go_at_call 40; refine (HH.out _ (Tab.below HT.out (HW2.out _ _)) (Row.below HROW.out (HW2.out _ _))).mono ?_; rintro e w3 ⟨a3, c3, rfl, hr3, hn3, hb3⟩; have HRES : Hid (w3.heap[w.heap.size]? = some (.cells #[.int .i64 0, .int .i64 0, .int .i64 0, .int .i64 0, .slice none 0 0] 24 (0, 0)) ∧ Below w.heap.size w w3) := HW3.out _ _ hb3; have HR3 : Hid (RRow w3 a3 RS) := hr3; clear hb3 hr3)
                  | (have _t := HRES; refine wpList_store_row rfl 24 _ _ rfl w.heap.size #[.int .i64 x0, .int .i64 x1, .int .i64 x2, .int .i64 x3, .slice a3 RS.length c3] rfl rfl 24 _ HRES.out.1 Tryd.info24 rfl (bat_one _ _ _ _ _ _ _) ?_))
              refine bodyPost_ret (v := .tuple #[.agg #[.int .i64 x0, .int .i64 x1, .int .i64 x2, .int .i64 x3, .slice a3 RS.length c3], .int .i64 M, .int .i64 E]) ?_ rfl ⟨a3, c3, rfl, rrow_res HRES.out.1 HR3.out, hn3, below_setRow HRES.out.2 (Nat.le_refl _) _⟩
              exact results_bat3 (p := 2) (u := 3) (u2 := 4) (by rfl) _ _ w.heap.size _ _ _ (by rfl) (by rfl) (by rfl) rfl (setRow_heap _ _ _ _ _ _ HRES.out.1)
          · have d4 : decide ((4611686018427387904 : Int) < (V2 : Int)) = false := decide_eq_false q4
            by_cases q5 : (4611686018427387904 : Int) < (V3 : Int)
            · have d5 : decide ((4611686018427387904 : Int) < (V3 : Int)) = true := decide_eq_true q5
              as_aux_lemma =>
                clear hno
                go_enter Tryd.func19, Tryd.ntmps19
                go_wp2_with (first
                    | (go_at_call 39; have _t := tok0; refine (HG0.out _ (Row.below HROW.out (HW2.out _ _))).mono ?_; clear tok0 _t; rintro e wg ⟨rfl, hw⟩; subst wg)
                    | (go_at_call 39; have _t := tok1; refine (HG1.out _ (Row.below HROW.out (HW2.out _ _))).mono ?_; clear tok1 _t; rintro e wg ⟨rfl, hw⟩; subst wg)
                    | (go_at_call 39; have _t := tok2; refine (HG2.out _ (Row.below HROW.out (HW2.out _ _))).mono ?_; clear tok2 _t; rintro e wg ⟨rfl, hw⟩; subst wg)
                    | (go_at_call 39; have _t := tok3; refine (HG3.out _ (Row.below HROW.out (HW2.out _ _))).mono ?_; clear tok3 _t; rintro e wg ⟨rfl, hw⟩; subst wg)
                    | (go_at_call 39; have _t := tok4; refine (HG4.out _ (Row.below HROW.out (HW2.out _ _))).mono ?_; clear tok4 _t; rintro e wg ⟨rfl, hw⟩; subst wg)
                    | (go_at_call 39; have _t := tok5; refine (HG5.out _ (Row.below HROW.out (HW2.out _ _))).mono ?_; clear tok5 _t; rintro e wg ⟨rfl, hw⟩; subst wg)
                    | (go_at_call 39; have _t := tok6; refine (HG6.out _ (Row.below HROW.out (HW2.out _ _))).mono ?_; clear tok6 _t; rintro e wg ⟨rfl, hw⟩; subst wg)
                    | (go_at_call 40; refine (HH.out _ (Tab.below HT.out (HW2.out _ _)) (Row.below HROW.out (HW2.out _ _))).mono ?_; rintro e w3 ⟨a3, c3, rfl, hr3, hn3, hb3⟩; have HRES : Hid (w3.heap[w.heap.size]? = some (.cells #[.int .i64 0, .int .i64 0, .int .i64 0, .int .i64 0, .slice none 0 0] 24 (0, 0)) ∧ Below w.heap.size w w3) := HW3.out _ _ hb3; have HR3 : Hid (RRow w3 a3 RS) := hr3; clear hb3 hr3)
                    | (have _t := HRES; refine wpList_store_row rfl 24 _ _ rfl w.heap.size #[.int .i64 x0, .int .i64 x1, .int .i64 x2, .int .i64 x3, .slice a3 RS.length c3] rfl rfl 24 _ HRES.out.1 Tryd.info24 rfl (bat_one _ _ _ _ _ _ _) ?_))
                refine bodyPost_ret (v := .tuple #[.agg #[.int .i64 x0, .int .i64 x1, .int .i64 x2, .int .i64 x3, .slice a3 RS.length c3], .int .i64 M, .int .i64 E]) ?_ rfl ⟨a3, c3, rfl, rrow_res HRES.out.1 HR3.out, hn3, below_setRow HRES.out.2 (Nat.le_refl _) _⟩
                exact results_bat3 (p := 2) (u := 3) (u2 := 4) (by rfl) _ _ w.heap.size _ _ _ (by rfl) (by rfl) (by rfl) rfl (setRow_heap _ _ _ _ _ _ HRES.out.1)
            · have d5 : decide ((4611686018427387904 : Int) < (V3 : Int)) = false := decide_eq_false q5
              by_cases q6 : (100 : Int) < (V4 : Int)
              · have d6 : decide ((100 : Int) < (V4 : Int)) = true := decide_eq_true q6
                as_aux_lemma =>
                  clear hno
                  go_enter Tryd.func19, Tryd.ntmps19
                  go_wp2_with (first
                      | (go_at_call 39; have _t := tok0; refine (HG0.out _ (Row.below HROW.out (HW2.out _ _))).mono ?_; clear tok0 _t; rintro e wg ⟨rfl, hw⟩; subst wg)
                      | (go_at_call 39; have _t := tok1; refine (HG1.out _ (Row.below HROW.out (HW2.out _ _))).mono ?_; clear tok1 _t; rintro e wg ⟨rfl, hw⟩; subst wg)
                      | (go_at_call 39; have _t := tok2; refine (HG2.out _ (Row.below HROW.out (HW2.out _ _))).mono ?_; clear tok2 _t; rintro e wg ⟨rfl, hw⟩; subst wg)
                      | (go_at_call 39; have _t := tok3; refine (HG3.out _ (Row.below HROW.out (HW2.out _ _))).mono ?_; clear tok3 _t; rintro e wg ⟨rfl, hw⟩; subst wg)
                      | (go_at_call 39; have _t := tok4; refine (HG4.out _ (Row.below HROW.out (HW2.out _ _))).mono ?_; clear tok4 _t; rintro e wg ⟨rfl, hw⟩; subst wg)
                      | (go_at_call 39; have _t := tok5; refine (HG5.out _ (Row.below HROW.out (HW2.out _ _))).mono ?_; clear tok5 _t; rintro e wg ⟨rfl, hw⟩; subst wg)
                      | (go_at_call 39; have _t := tok6; refine (HG6.out _ (Row.below HROW.out (HW2.out _ _))).mono ?_; clear tok6 _t; rintro e wg ⟨rfl, hw⟩; subst wg)
                      | (go_at_call 40; refine (HH.out _ (Tab.below HT.out (HW2.out _ _)) (Row.below HROW.out (HW2.out _ _))).mono ?_; rintro e w3 ⟨a3, c3, rfl, hr3, hn3, hb3⟩; have HRES : Hid (w3.heap[w.heap.size]? = some (.cells #[.int .i64 0, .int .i64 0, .int .i64 0, .int .i64 0, .slice none 0 0] 24 (0, 0)) ∧ Below w.heap.size w w3) := HW3.out _ _ hb3; have HR3 : Hid (RRow w3 a3 RS) := hr3; clear hb3 hr3)
                      | (have _t := HRES; refine wpList_store_row rfl 24 _ _ rfl w.heap.size #[.int .i64 x0, .int .i64 x1, .int .i64 x2, .int .i64 x3, .slice a3 RS.length c3] rfl rfl 24 _ HRES.out.1 Tryd.info24 rfl (bat_one _ _ _ _ _ _ _) ?_))
                  refine bodyPost_ret (v := .tuple #[.agg #[.int .i64 x0, .int .i64 x1, .int .i64 x2, .int .i64 x3, .slice a3 RS.length c3], .int .i64 M, .int .i64 E]) ?_ rfl ⟨a3, c3, rfl, rrow_res HRES.out.1 HR3.out, hn3, below_setRow HRES.out.2 (Nat.le_refl _) _⟩
                  exact results_bat3 (p := 2) (u := 3) (u2 := 4) (by rfl) _ _ w.heap.size _ _ _ (by rfl) (by rfl) (by rfl) rfl (setRow_heap _ _ _ _ _ _ HRES.out.1)
              · have d6 : decide ((100 : Int) < (V4 : Int)) = false := decide_eq_false q6
                by_cases q7 : (V5 : Int) < 1
                · have d7 : decide ((V5 : Int) < 1) = true := decide_eq_true q7
                  as_aux_lemma =>
                    clear hno
                    go_enter Tryd.func19, Tryd.ntmps19
                    go_wp2_with (first
                        | (go_at_call 39; have _t := tok0; refine (HG0.out _ (Row.below HROW.out (HW2.out _ _))).mono ?_; clear tok0 _t; rintro e wg ⟨rfl, hw⟩; subst wg)
                        | (go_at_call 39; have _t := tok1; refine (HG1.out _ (Row.below HROW.out (HW2.out _ _))).mono ?_; clear tok1 _t; rintro e wg ⟨rfl, hw⟩; subst wg)
                        | (go_at_call 39; have _t := tok2; refine (HG2.out _ (Row.below HROW.out (HW2.out _ _))).mono ?_; clear tok2 _t; rintro e wg ⟨rfl, hw⟩; subst wg)
                        | (go_at_call 39; have _t := tok3; refine (HG3.out _ (Row.below HROW.out (HW2.out _ _))).mono ?_; clear tok3 _t; rintro e wg ⟨rfl, hw⟩; subst wg)
                        | (go_at_call 39; have _t := tok4; refine (HG4.out _ (Row.below HROW.out (HW2.out _ _))).mono ?_; clear tok4 _t; rintro e wg ⟨rfl, hw⟩; subst wg)
                        | (go_at_call 39; have _t := tok5; refine (HG5.out _ (Row.below HROW.out (HW2.out _ _))).mono ?_; clear tok5 _t; rintro e wg ⟨rfl, hw⟩; subst wg)
                        | (go_at_call 39; have _t := tok6; refine (HG6.out _ (Row.below HROW.out (HW2.out _ _))).mono ?_; clear tok6 _t; rintro e wg ⟨rfl, hw⟩; subst wg)
                        | (go_at_call 40; refine (HH.out _ (Tab.below HT.out (HW2.out _ _)) (Row.below HROW.out (HW2.out _ _))).mono ?_; rintro e w3 ⟨a3, c3, rfl, hr3, hn3, hb3⟩; have HRES : Hid (w3.heap[w.heap.size]? = some (.cells #[.int .i64 0, .int .i64 0, .int .i64 0, .int .i64 0, .slice none 0 0] 24 (0, 0)) ∧ Below w.heap.size w w3) := HW3.out _ _ hb3; have HR3 : Hid (RRow w3 a3 RS) := hr3; clear hb3 hr3)
                        | (have _t := HRES; refine wpList_store_row rfl 24 _ _ rfl w.heap.size #[.int .i64 x0, .int .i64 x1, .int .i64 x2, .int .i64 x3, .slice a3 RS.length c3] rfl rfl 24 _ HRES.out.1 Tryd.info24 rfl (bat_one _ _ _ _ _ _ _) ?_))
                    refine bodyPost_ret (v := .tuple #[.agg #[.int .i64 x0, .int .i64 x1, .int .i64 x2, .int .i64 x3, .slice a3 RS.length c3], .int .i64 M, .int .i64 E]) ?_ rfl ⟨a3, c3, rfl, rrow_res HRES.out.1 HR3.out, hn3, below_setRow HRES.out.2 (Nat.le_refl _) _⟩
                    exact results_bat3 (p := 2) (u := 3) (u2 := 4) (by rfl) _ _ w.heap.size _ _ _ (by rfl) (by rfl) (by rfl) rfl (setRow_heap _ _ _ _ _ _ HRES.out.1)
                · have d7 : decide ((V5 : Int) < 1) = false := decide_eq_false q7
                  by_cases q8 : (100 : Int) < (V5 : Int)
                  · have d8 : decide ((100 : Int) < (V5 : Int)) = true := decide_eq_true q8
                    as_aux_lemma =>
                      clear hno
                      go_enter Tryd.func19, Tryd.ntmps19
                      go_wp2_with (first
                          | (go_at_call 39; have _t := tok0; refine (HG0.out _ (Row.below HROW.out (HW2.out _ _))).mono ?_; clear tok0 _t; rintro e wg ⟨rfl, hw⟩; subst wg)
                          | (go_at_call 39; have _t := tok1; refine (HG1.out _ (Row.below HROW.out (HW2.out _ _))).mono ?_; clear tok1 _t; rintro e wg ⟨rfl, hw⟩; subst wg)
                          | (go_at_call 39; have _t := tok2; refine (HG2.out _ (Row.below HROW.out (HW2.out _ _))).mono ?_; clear tok2 _t; rintro e wg ⟨rfl, hw⟩; subst wg)
                          | (go_at_call 39; have _t := tok3; refine (HG3.out _ (Row.below HROW.out (HW2.out _ _))).mono ?_; clear tok3 _t; rintro e wg ⟨rfl, hw⟩; subst wg)
                          | (go_at_call 39; have _t := tok4; refine (HG4.out _ (Row.below HROW.out (HW2.out _ _))).mono ?_; clear tok4 _t; rintro e wg ⟨rfl, hw⟩; subst wg)
                          | (go_at_call 39; have _t := tok5; refine (HG5.out _ (Row.below HROW.out (HW2.out _ _))).mono ?_; clear tok5 _t; rintro e wg ⟨rfl, hw⟩; subst wg)
                          | (go_at_call 39; have _t := tok6; refine (HG6.out _ (Row.below HROW.out (HW2.out _ _))).mono ?_; clear tok6 _t; rintro e wg ⟨rfl, hw⟩; subst wg)
                          | (go_at_call 40; refine (HH.out _ (Tab.below HT.out (HW2.out _ _)) (Row.below HROW.out (HW2.out _ _))).mono ?_; rintro e w3 ⟨a3, c3, rfl, hr3, hn3, hb3⟩; have HRES : Hid (w3.heap[w.heap.size]? = some (.cells #[.int .i64 0, .int .i64 0, .int .i64 0, .int .i64 0, .slice none 0 0] 24 (0, 0)) ∧ Below w.heap.size w w3) := HW3.out _ _ hb3; have HR3 : Hid (RRow w3 a3 RS) := hr3; clear hb3 hr3)
                          | (have _t := HRES; refine wpList_store_row rfl 24 _ _ rfl w.heap.size #[.int .i64 x0, .int .i64 x1, .int .i64 x2, .int .i64 x3, .slice a3 RS.length c3] rfl rfl 24 _ HRES.out.1 Tryd.info24 rfl (bat_one _ _ _ _ _ _ _) ?_))
                      refine bodyPost_ret (v := .tuple #[.agg #[.int .i64 x0, .int .i64 x1, .int .i64 x2, .int .i64 x3, .slice a3 RS.length c3], .int .i64 M, .int .i64 E]) ?_ rfl ⟨a3, c3, rfl, rrow_res HRES.out.1 HR3.out, hn3, below_setRow HRES.out.2 (Nat.le_refl _) _⟩
                      exact results_bat3 (p := 2) (u := 3) (u2 := 4) (by rfl) _ _ w.heap.size _ _ _ (by rfl) (by rfl) (by rfl) rfl (setRow_heap _ _ _ _ _ _ HRES.out.1)
                  · have d8 : decide ((100 : Int) < (V5 : Int)) = false := decide_eq_false q8
                    by_cases q9 : (1125899906842624 : Int) < (V6 : Int)
                    · have d9 : decide ((1125899906842624 : Int) < (V6 : Int)) = true := decide_eq_true q9
                      as_aux_lemma =>
                        clear hno
                        go_enter Tryd.func19, Tryd.ntmps19
                        go_wp2_with (first
                            | (go_at_call 39; have _t := tok0; refine (HG0.out _ (Row.below HROW.out (HW2.out _ _))).mono ?_; clear tok0 _t; rintro e wg ⟨rfl, hw⟩; subst wg)
                            | (go_at_call 39; have _t := tok1; refine (HG1.out _ (Row.below HROW.out (HW2.out _ _))).mono ?_; clear tok1 _t; rintro e wg ⟨rfl, hw⟩; subst wg)
                            | (go_at_call 39; have _t := tok2; refine (HG2.out _ (Row.below HROW.out (HW2.out _ _))).mono ?_; clear tok2 _t; rintro e wg ⟨rfl, hw⟩; subst wg)
                            | (go_at_call 39; have _t := tok3; refine (HG3.out _ (Row.below HROW.out (HW2.out _ _))).mono ?_; clear tok3 _t; rintro e wg ⟨rfl, hw⟩; subst wg)
                            | (go_at_call 39; have _t := tok4; refine (HG4.out _ (Row.below HROW.out (HW2.out _ _))).mono ?_; clear tok4 _t; rintro e wg ⟨rfl, hw⟩; subst wg)
                            | (go_at_call 39; have _t := tok5; refine (HG5.out _ (Row.below HROW.out (HW2.out _ _))).mono ?_; clear tok5 _t; rintro e wg ⟨rfl, hw⟩; subst wg)
                            | (go_at_call 39; have _t := tok6; refine (HG6.out _ (Row.below HROW.out (HW2.out _ _))).mono ?_; clear tok6 _t; rintro e wg ⟨rfl, hw⟩; subst wg)
                            | (go_at_call 40; refine (HH.out _ (Tab.below HT.out (HW2.out _ _)) (Row.below HROW.out (HW2.out _ _))).mono ?_; rintro e w3 ⟨a3, c3, rfl, hr3, hn3, hb3⟩; have HRES : Hid (w3.heap[w.heap.size]? = some (.cells #[.int .i64 0, .int .i64 0, .int .i64 0, .int .i64 0, .slice none 0 0] 24 (0, 0)) ∧ Below w.heap.size w w3) := HW3.out _ _ hb3; have HR3 : Hid (RRow w3 a3 RS) := hr3; clear hb3 hr3)
                            | (have _t := HRES; refine wpList_store_row rfl 24 _ _ rfl w.heap.size #[.int .i64 x0, .int .i64 x1, .int .i64 x2, .int .i64 x3, .slice a3 RS.length c3] rfl rfl 24 _ HRES.out.1 Tryd.info24 rfl (bat_one _ _ _ _ _ _ _) ?_))
                        refine bodyPost_ret (v := .tuple #[.agg #[.int .i64 x0, .int .i64 x1, .int .i64 x2, .int .i64 x3, .slice a3 RS.length c3], .int .i64 M, .int .i64 E]) ?_ rfl ⟨a3, c3, rfl, rrow_res HRES.out.1 HR3.out, hn3, below_setRow HRES.out.2 (Nat.le_refl _) _⟩
                        exact results_bat3 (p := 2) (u := 3) (u2 := 4) (by rfl) _ _ w.heap.size _ _ _ (by rfl) (by rfl) (by rfl) rfl (setRow_heap _ _ _ _ _ _ HRES.out.1)
                    · have d9 : decide ((1125899906842624 : Int) < (V6 : Int)) = false := decide_eq_false q9
                      exact absurd (by refine ⟨?_, ?_, ?_, ?_, ?_, ?_, ?_, ?_, ?_, ?_⟩ <;> omega) hno
end Go.Proofs.YtgpeldmplkijlaaDoor
namespace Go.Proofs.YtgpeldmplkijlaaDoor
set_option linter.unusedSimpArgs false
set_option linter.unusedVariables false
open Go.RowKit
theorem two_z (w : World) : Below w.heap.size w ((w.alloc (.cells #[.int .i64 0, .int .i64 0, .int .i64 0, .int .i64 0, .slice none 0 0] 24)).alloc (.cells #[.int .i64 0, .int .i64 0, .int .i64 0, .int .i64 0, .slice none 0 0] 24)) ∧ ((w.alloc (.cells #[.int .i64 0, .int .i64 0, .int .i64 0, .int .i64 0, .slice none 0 0] 24)).alloc (.cells #[.int .i64 0, .int .i64 0, .int .i64 0, .int .i64 0, .slice none 0 0] 24)).heap[w.heap.size]? = some (.cells #[.int .i64 0, .int .i64 0, .int .i64 0, .int .i64 0, .slice none 0 0] 24 (0, 0)) ∧ ((w.alloc (.cells #[.int .i64 0, .int .i64 0, .int .i64 0, .int .i64 0, .slice none 0 0] 24)).alloc (.cells #[.int .i64 0, .int .i64 0, .int .i64 0, .int .i64 0, .slice none 0 0] 24)).heap[w.heap.size + 1]? = some (.cells #[.int .i64 0, .int .i64 0, .int .i64 0, .int .i64 0, .slice none 0 0] 24 (0, 0)) := by
  refine ⟨(below_box _).trans ((below_box _).mono (by simp)), ?_, ?_⟩
  · rw [(below_box (w := w.alloc (.cells #[.int .i64 0, .int .i64 0, .int .i64 0, .int .i64 0, .slice none 0 0] 24)) _).block w.heap.size (by simp)]
    exact heap_alloc_new w _
  · have := heap_alloc_new (w.alloc (.cells #[.int .i64 0, .int .i64 0, .int .i64 0, .int .i64 0, .slice none 0 0] 24)) (.cells #[.int .i64 0, .int .i64 0, .int .i64 0, .int .i64 0, .slice none 0 0] 24)
    simpa using this
set_option maxHeartbeats 3200000 in
set_option maxRecDepth 100000 in
theorem huge_no (a : Option Addr) (cap len : Nat) (w : World) (V0 V1 V2 V3 : Nat) (h12 : 12 ≤ len) (hl2 : len ≤ 8000)
    (hno : ¬ (V2 < 9223372036854775808 ∧ V3 < 9223372036854775808 ∧ ¬ (V2 ≤ 4611686018427387904 ∧ V3 ≤ 4611686018427387904) ∧ 36 ≤ V1 ∧ V1 ≤ len - 12 ∧ V1 ≤ 6000)) :
    Calls Tryd.prog 40 #[.slice a len cap, .int .u64 (V0 : Int), .int .u64 (V1 : Int), .int .u64 (V2 : Int), .int .u64 (V3 : Int)] w fun e w' => e = .returned (.tuple #[.agg #[.int .i64 0, .int .i64 0, .int .i64 0, .int .i64 0, .slice none 0 0], .int .i64 0, .int .i64 10]) ∧ Below w.heap.size w w' := by
  have HT : Hid _ := two_z w
  obtain ⟨Zn, HZ⟩ : ∃ Zn : Nat, Hid (len - 12 = Zn) := ⟨_, rfl⟩
  rw [HZ.out] at hno
  have z1 : IntKind.i64.wrap ((len : Int) - 12) = (Zn : Int) := by have := HZ.out; rw [IntKind.wrap_i64]; omega
  have z2 : IntKind.u64.wrap (Zn : Int) = (Zn : Int) := by have := HZ.out; rw [IntKind.wrap_u64]; omega
  by_cases a1 : (9223372036854775808 : Int) ≤ (V2 : Int)
  · have a1d : decide ((9223372036854775808 : Int) ≤ (V2 : Int)) = true := decide_eq_true a1
    clear hno
    have tk : True := trivial
    go_enter Tryd.func40, Tryd.ntmps40
    go_wp2_with (have _t := tk; refine wpList_store_row rfl 24 _ _ rfl w.heap.size #[.int .i64 0, .int .i64 0, .int .i64 0, .int .i64 0, .slice none 0 0] rfl rfl 24 _ HT.out.2.1 Tryd.info24 rfl (bat_one _ _ _ _ _ _ _) ?_)
    refine bodyPost_ret (v := .tuple #[.agg #[.int .i64 0, .int .i64 0, .int .i64 0, .int .i64 0, .slice none 0 0], .int .i64 0, .int .i64 10]) ?_ rfl ⟨rfl, below_setRow HT.out.1 (Nat.le_refl _) _⟩
    exact results_bat3 (p := 10) (u := 11) (u2 := 12) (by rfl) _ _ w.heap.size _ _ _ (by rfl) (by rfl) (by rfl) rfl (setRow_heap _ _ _ _ _ _ HT.out.2.1)
  · have a1d : decide ((9223372036854775808 : Int) ≤ (V2 : Int)) = false := decide_eq_false a1
    by_cases a2 : (9223372036854775808 : Int) ≤ (V3 : Int)
    · have a2d : decide ((9223372036854775808 : Int) ≤ (V3 : Int)) = true := decide_eq_true a2
      clear hno
      have tk : True := trivial
      go_enter Tryd.func40, Tryd.ntmps40
      go_wp2_with (have _t := tk; refine wpList_store_row rfl 24 _ _ rfl w.heap.size #[.int .i64 0, .int .i64 0, .int .i64 0, .int .i64 0, .slice none 0 0] rfl rfl 24 _ HT.out.2.1 Tryd.info24 rfl (bat_one _ _ _ _ _ _ _) ?_)
      refine bodyPost_ret (v := .tuple #[.agg #[.int .i64 0, .int .i64 0, .int .i64 0, .int .i64 0, .slice none 0 0], .int .i64 0, .int .i64 10]) ?_ rfl ⟨rfl, below_setRow HT.out.1 (Nat.le_refl _) _⟩
      exact results_bat3 (p := 10) (u := 11) (u2 := 12) (by rfl) _ _ w.heap.size _ _ _ (by rfl) (by rfl) (by rfl) rfl (setRow_heap _ _ _ _ _ _ HT.out.2.1)
    · have a2d : decide ((9223372036854775808 : Int) ≤ (V3 : Int)) = false := decide_eq_false a2
      by_cases a3 : (V2 : Int) ≤ 4611686018427387904
      · have a3d : decide ((V2 : Int) ≤ 4611686018427387904) = true := decide_eq_true a3
        by_cases a4 : (V3 : Int) ≤ 4611686018427387904
        · have a4d : decide ((V3 : Int) ≤ 4611686018427387904) = true := decide_eq_true a4
          clear hno
          have tk : True := trivial
          go_enter Tryd.func40, Tryd.ntmps40
          go_wp2_with (have _t := tk; refine wpList_store_row rfl 24 _ _ rfl w.heap.size #[.int .i64 0, .int .i64 0, .int .i64 0, .int .i64 0, .slice none 0 0] rfl rfl 24 _ HT.out.2.1 Tryd.info24 rfl (bat_one _ _ _ _ _ _ _) ?_)
          refine bodyPost_ret (v := .tuple #[.agg #[.int .i64 0, .int .i64 0, .int .i64 0, .int .i64 0, .slice none 0 0], .int .i64 0, .int .i64 10]) ?_ rfl ⟨rfl, below_setRow HT.out.1 (Nat.le_refl _) _⟩
          exact results_bat3 (p := 10) (u := 11) (u2 := 12) (by rfl) _ _ w.heap.size _ _ _ (by rfl) (by rfl) (by rfl) rfl (setRow_heap _ _ _ _ _ _ HT.out.2.1)
        · have a4d : decide ((V3 : Int) ≤ 4611686018427387904) = false := decide_eq_false a4
          by_cases b1 : (V1 : Int) < 36
          · have b1d : decide ((V1 : Int) < 36) = true := decide_eq_true b1
            clear hno
            have tk : True := trivial
            go_enter Tryd.func40, Tryd.ntmps40
            go_wp2_with (have _t := tk; refine wpList_store_row rfl 24 _ _ rfl w.heap.size #[.int .i64 0, .int .i64 0, .int .i64 0, .int .i64 0, .slice none 0 0] rfl rfl 24 _ HT.out.2.1 Tryd.info24 rfl (bat_one _ _ _ _ _ _ _) ?_)
            refine bodyPost_ret (v := .tuple #[.agg #[.int .i64 0, .int .i64 0, .int .i64 0, .int .i64 0, .slice none 0 0], .int .i64 0, .int .i64 10]) ?_ rfl ⟨rfl, below_setRow HT.out.1 (Nat.le_refl _) _⟩
            exact results_bat3 (p := 10) (u := 11) (u2 := 12) (by rfl) _ _ w.heap.size _ _ _ (by rfl) (by rfl) (by rfl) rfl (setRow_heap _ _ _ _ _ _ HT.out.2.1)
          · have b1d : decide ((V1 : Int) < 36) = false := decide_eq_false b1
            by_cases b2 : Zn < V1
            · have b2d : decide (Zn < V1) = true := decide_eq_true b2
              clear hno
              have tk : True := trivial
              go_enter Tryd.func40, Tryd.ntmps40
              go_wp2_with (have _t := tk; refine wpList_store_row rfl 24 _ _ rfl w.heap.size #[.int .i64 0, .int .i64 0, .int .i64 0, .int .i64 0, .slice none 0 0] rfl rfl 24 _ HT.out.2.1 Tryd.info24 rfl (bat_one _ _ _ _ _ _ _) ?_)
              refine bodyPost_ret (v := .tuple #[.agg #[.int .i64 0, .int .i64 0, .int .i64 0, .int .i64 0, .slice none 0 0], .int .i64 0, .int .i64 10]) ?_ rfl ⟨rfl, below_setRow HT.out.1 (Nat.le_refl _) _⟩
              exact results_bat3 (p := 10) (u := 11) (u2 := 12) (by rfl) _ _ w.heap.size _ _ _ (by rfl) (by rfl) (by rfl) rfl (setRow_heap _ _ _ _ _ _ HT.out.2.1)
            · have b2d : decide (Zn < V1) = false := decide_eq_false b2
              by_cases b3 : (6000 : Int) < (V1 : Int)
              · have b3d : decide ((6000 : Int) < (V1 : Int)) = true := decide_eq_true b3
                clear hno
                have tk : True := trivial
                go_enter Tryd.func40, Tryd.ntmps40
                go_wp2_with (have _t := tk; refine wpList_store_row rfl 24 _ _ rfl w.heap.size #[.int .i64 0, .int .i64 0, .int .i64 0, .int .i64 0, .slice none 0 0] rfl rfl 24 _ HT.out.2.1 Tryd.info24 rfl (bat_one _ _ _ _ _ _ _) ?_)
                refine bodyPost_ret (v := .tuple #[.agg #[.int .i64 0, .int .i64 0, .int .i64 0, .int .i64 0, .slice none 0 0], .int .i64 0, .int .i64 10]) ?_ rfl ⟨rfl, below_setRow HT.out.1 (Nat.le_refl _) _⟩
                exact results_bat3 (p := 10) (u := 11) (u2 := 12) (by rfl) _ _ w.heap.size _ _ _ (by rfl) (by rfl) (by rfl) rfl (setRow_heap _ _ _ _ _ _ HT.out.2.1)
              · have b3d : decide ((6000 : Int) < (V1 : Int)) = false := decide_eq_false b3
                exact absurd (by refine ⟨?_, ?_, ?_, ?_, ?_, ?_⟩ <;> omega) hno
      · have a3d : decide ((V2 : Int) ≤ 4611686018427387904) = false := decide_eq_false a3
        by_cases b1 : (V1 : Int) < 36
        · have b1d : decide ((V1 : Int) < 36) = true := decide_eq_true b1
          clear hno
          have tk : True := trivial
          go_enter Tryd.func40, Tryd.ntmps40
          go_wp2_with (have _t := tk; refine wpList_store_row rfl 24 _ _ rfl w.heap.size #[.int .i64 0, .int .i64 0, .int .i64 0, .int .i64 0, .slice none 0 0] rfl rfl 24 _ HT.out.2.1 Tryd.info24 rfl (bat_one _ _ _ _ _ _ _) ?_)
          refine bodyPost_ret (v := .tuple #[.agg #[.int .i64 0, .int .i64 0, .int .i64 0, .int .i64 0, .slice none 0 0], .int .i64 0, .int .i64 10]) ?_ rfl ⟨rfl, below_setRow HT.out.1 (Nat.le_refl _) _⟩
          exact results_bat3 (p := 10) (u := 11) (u2 := 12) (by rfl) _ _ w.heap.size _ _ _ (by rfl) (by rfl) (by rfl) rfl (setRow_heap _ _ _ _ _ _ HT.out.2.1)
        · have b1d : decide ((V1 : Int) < 36) = false := decide_eq_false b1
          by_cases b2 : Zn < V1
          · have b2d : decide (Zn < V1) = true := decide_eq_true b2
            clear hno
            have tk : True := trivial
            go_enter Tryd.func40, Tryd.ntmps40
            go_wp2_with (have _t := tk; refine wpList_store_row rfl 24 _ _ rfl w.heap.size #[.int .i64 0, .int .i64 0, .int .i64 0, .int .i64 0, .slice none 0 0] rfl rfl 24 _ HT.out.2.1 Tryd.info24 rfl (bat_one _ _ _ _ _ _ _) ?_)
            refine bodyPost_ret (v := .tuple #[.agg #[.int .i64 0, .int .i64 0, .int .i64 0, .int .i64 0, .slice none 0 0], .int .i64 0, .int .i64 10]) ?_ rfl ⟨rfl, below_setRow HT.out.1 (Nat.le_refl _) _⟩
            exact results_bat3 (p := 10) (u := 11) (u2 := 12) (by rfl) _ _ w.heap.size _ _ _ (by rfl) (by rfl) (by rfl) rfl (setRow_heap _ _ _ _ _ _ HT.out.2.1)
          · have b2d : decide (Zn < V1) = false := decide_eq_false b2
            by_cases b3 : (6000 : Int) < (V1 : Int)
            · have b3d : decide ((6000 : Int) < (V1 : Int)) = true := decide_eq_true b3
              clear hno
              have tk : True := trivial
              go_enter Tryd.func40, Tryd.ntmps40
              go_wp2_with (have _t := tk; refine wpList_store_row rfl 24 _ _ rfl w.heap.size #[.int .i64 0, .int .i64 0, .int .i64 0, .int .i64 0, .slice none 0 0] rfl rfl 24 _ HT.out.2.1 Tryd.info24 rfl (bat_one _ _ _ _ _ _ _) ?_)
              refine bodyPost_ret (v := .tuple #[.agg #[.int .i64 0, .int .i64 0, .int .i64 0, .int .i64 0, .slice none 0 0], .int .i64 0, .int .i64 10]) ?_ rfl ⟨rfl, below_setRow HT.out.1 (Nat.le_refl _) _⟩
              exact results_bat3 (p := 10) (u := 11) (u2 := 12) (by rfl) _ _ w.heap.size _ _ _ (by rfl) (by rfl) (by rfl) rfl (setRow_heap _ _ _ _ _ _ HT.out.2.1)
            · have b3d : decide ((6000 : Int) < (V1 : Int)) = false := decide_eq_false b3
              exact absurd (by refine ⟨?_, ?_, ?_, ?_, ?_, ?_⟩ <;> omega) hno
/-- Bytes whose producer and Seq are at most 2^62. -/
theorem rdb_small (a : Option Addr) (cap : Nat) (l : List Nat) (w : World) (ht : Tab w) (hr : Row w a l) (hl : l.length ≤ cap) (hc : cap ≤ maxLen) (hl2 : l.length ≤ 8000) (h2 : getV l 16 8 true ≤ 4611686018427387904) (h3 : getV l 24 8 true ≤ 4611686018427387904) :
    Calls Tryd.prog 19 #[.slice a l.length cap] w fun e w' => DecP l w e w' := by
  by_cases h48 : l.length < 48
  · refine (rdb_short a cap l.length w h48).mono ?_
    rintro e w' ⟨rfl, hb⟩
    exact ⟨fun h => absurd h.l48 (Nat.not_le.2 h48), fun _ => rfl, hb⟩
  · have h48' : 48 ≤ l.length := Nat.not_lt.1 h48
    obtain ⟨pb, poff, rfl, _, _⟩ := hr 0 (Nat.lt_of_lt_of_le (by decide) h48')
    by_cases hq : Ql l
    · exact rdb_ql pb poff cap l w ht hr hl hc hl2 h48' hq
    · have hnok := not_ql (mem_lt hr.lt) hq h2 h3
      refine (rdb_ref pb poff cap l w hr hl2 h48' ht (getV l 0 8 true) (getV l 8 4 true) (getV l 16 8 true) (getV l 24 8 true) (getV l 32 4 true) (getV l 36 4 true) (getV l 40 8 true) 0 0 0 0 0 10 [] (fun a c => a = none ∧ c = 0)
        (fun y hy => rget_yes (some ⟨pb, poff, none⟩) cap l 0 8 true y hy (Nat.le_trans hl2 (by decide)) (by decide) (by decide) (Nat.le_trans (by decide) h48'))
        (fun y hy => rget_yes (some ⟨pb, poff, none⟩) cap l 8 4 true y hy (Nat.le_trans hl2 (by decide)) (by decide) (by decide) (Nat.le_trans (by decide) h48'))
        (fun y hy => rget_yes (some ⟨pb, poff, none⟩) cap l 16 8 true y hy (Nat.le_trans hl2 (by decide)) (by decide) (by decide) (Nat.le_trans (by decide) h48'))
        (fun y hy => rget_yes (some ⟨pb, poff, none⟩) cap l 24 8 true y hy (Nat.le_trans hl2 (by decide)) (by decide) (by decide) (Nat.le_trans (by decide) h48'))
        (fun y hy => rget_yes (some ⟨pb, poff, none⟩) cap l 32 4 true y hy (Nat.le_trans hl2 (by decide)) (by decide) (by decide) (Nat.le_trans (by decide) h48'))
        (fun y hy => rget_yes (some ⟨pb, poff, none⟩) cap l 36 4 true y hy (Nat.le_trans hl2 (by decide)) (by decide) (by decide) (Nat.le_trans (by decide) h48'))
        (fun y hy => rget_yes (some ⟨pb, poff, none⟩) cap l 40 8 true y hy (Nat.le_trans hl2 (by decide)) (by decide) (by decide) (Nat.le_trans (by decide) h48'))
        (fun y ty hy => ?_) (fun ⟨q1, q2, q3, q4, q5, q6, q7, q8, q9, qa⟩ => hq ⟨q1, q2, q3, q4, q5, q6, q7, q8, q9, qa⟩)).mono ?_
      · refine (huge_no (some ⟨pb, poff, none⟩) cap l.length y (getV l 0 8 true) (getV l 8 4 true) (getV l 16 8 true) (getV l 24 8 true) (Nat.le_trans (by decide) h48') hl2 (fun h => h.2.2.1 ⟨h2, h3⟩)).mono ?_
        rintro e w' ⟨rfl, hb⟩
        exact ⟨none, 0, rfl, RRow.nil _ _, ⟨rfl, rfl⟩, hb⟩
      · rintro e w' ⟨a', c', rfl, hrr, ⟨rfl, rfl⟩, hb⟩
        exact ⟨fun h => absurd h hnok, fun _ => rfl, hb⟩
set_option maxHeartbeats 3200000 in
set_option maxRecDepth 100000 in
theorem smaller_any (pb poff cap : Nat) (l : List Nat) (w : World) (ht : Tab w) (hr : Row w (some ⟨pb, poff, none⟩) l) (V1 Nn : Nat) (hN : Nn = 12 + V1) (h48 : 48 ≤ Nn) (hNl : Nn ≤ l.length) (hN6 : Nn ≤ 6012) (hl : l.length ≤ cap) (hc : cap ≤ maxLen)
    (x0 x1 x2 x3 M E : Int) (RS : List Rc) (T : Option Addr → Nat → Prop)
    (HD : Hid (∀ y g c, Tab y → Row y (some ⟨g, 0, none⟩) (smL (l.take Nn)) → (smL (l.take Nn)).length ≤ c → c ≤ maxLen → Calls Tryd.prog 19 #[.slice (some ⟨g, 0, none⟩) (smL (l.take Nn)).length c] y fun e w' => ∃ a' c', e = .returned (.tuple #[.agg #[.int .i64 x0, .int .i64 x1, .int .i64 x2, .int .i64 x3, .slice a' RS.length c'], .int .i64 M, .int .i64 E]) ∧ RRow w' a' RS ∧ T a' c' ∧ Below y.heap.size y w')) :
    Calls Tryd.prog 55 #[.slice (some ⟨pb, poff, none⟩) l.length cap, .int .i64 (V1 : Int)] w fun e w' => ∃ a' c', e = .returned (.tuple #[.agg #[.int .i64 x0, .int .i64 x1, .int .i64 x2, .int .i64 x3, .slice a' RS.length c'], .int .i64 M, .int .i64 E]) ∧ RRow w' a' RS ∧ T a' c' ∧ Below w.heap.size w w' := by
  have HROW : Hid (Row w (some ⟨pb, poff, none⟩) l) := hr
  have HT : Hid (Tab w) := ht
  have hml : (l.take Nn).length = Nn := by rw [List.length_take]; omega
  have hmb : ∀ i, (l.take Nn).getD i 0 < 256 := lt_mem (fun x hx => mem_lt hr.lt x (List.mem_of_mem_take hx))
  have m7 : IntKind.i64.wrap (12 + (V1 : Int)) = (Nn : Int) := by rw [IntKind.wrap_i64]; omega
  have kt : ∀ y, (Instr.slice 27 (.slice (some ⟨pb, poff, none⟩) l.length cap) none (some (.int .i64 (Nn : Int))) none).run Tryd.prog y = .ok (.slice (some ⟨pb, poff, none⟩) Nn cap) y := fun y => run_slice_to y ⟨pb, poff, none⟩ l.length cap Nn (by omega) hNl
  obtain ⟨ZJ, HZJ⟩ : ∃ F : Nat → List Nat, Hid (∀ j, z16 (l.take Nn) (j - 16) = F j) := ⟨_, fun _ => rfl⟩
  have HZB : Hid (∀ j i, (ZJ j).getD i 0 < 256) := fun j => by rw [← HZJ.out]; exact z16_lt hmb _
  have HZL : Hid (∀ j, (ZJ j).length = Nn) := fun j => by rw [← HZJ.out, z16_len, hml]
  have HZS : Hid (∀ j, 16 ≤ j → ZJ (j + 1) = (ZJ j).set j 0) := fun j hj => by
    rw [← HZJ.out, ← HZJ.out, show j + 1 - 16 = (j - 16) + 1 by omega, z16, show 16 + (j - 16) = j by omega]
  have HZ0 : Hid (ZJ 16 = l.take Nn) := by show _ = _; rw [← HZJ.out]; rfl
  have HSB : Hid (∀ i, (smL (l.take Nn)).getD i 0 < 256) := smL_lt hmb
  have HSL : Hid ((smL (l.take Nn)).length = Nn) := by show _ = _; rw [smL_len, hml]
  have HSD : Hid (smL (l.take Nn) = putL (ZJ 32) 12 4 true (P.sum ((ZJ 32).drop 16))) := by show _ = _; rw [← HZJ.out]; rfl
  have hsum : P.sum ((ZJ 32).drop 16) < 4294967296 := sum_lt _ (fun x hx => mem_lt (HZB.out 32) x (List.mem_of_mem_drop hx))
  have HML : Hid ((l.take Nn).length = Nn) := hml
  have HRW : Hid (∀ o1 o2, Row ((w.alloc o1).alloc o2) (some ⟨pb, poff, none⟩) (l.take Nn)) := fun o1 o2 => Row.below (Row.below (row_take Nn hr) (below_box _)) (below_box _)
  rw [HSL.out] at HD
  have HSU : Hid (∀ y g c, Row y (some ⟨g, 0, none⟩) (ZJ 32) → Nn ≤ c → Calls Tryd.prog 35 #[.slice (cutA (some ⟨g, 0, none⟩) c 16) (Nn - 16) (c - 16)] y fun e w' => e = .returned (.int .u32 ((P.sum ((ZJ 32).drop 16) : Nat) : Int)) ∧ w' = y) := by
    intro y g c h1 h2
    have h3 := rsum_any (cutA (some ⟨g, 0, none⟩) c 16) (c - 16) ((ZJ 32).drop 16) y (row_cut c 16 h1 (by rw [HZL.out]; exact h2)) (by rw [List.length_drop, HZL.out]; unfold maxLen; omega)
    rw [List.length_drop, HZL.out] at h3
    exact h3
  have HPU : Hid (∀ y g c, Row y (some ⟨g, 0, none⟩) (ZJ 32) → Calls Tryd.prog 44 #[.slice (some ⟨g, 0, none⟩) Nn c, .int .i64 12, .int .i64 4, .bool true, .int .u64 ((P.sum ((ZJ 32).drop 16) : Nat) : Int)] y fun e w' => (∃ g' cap', e = .returned (.tuple #[.slice (some ⟨g', 0, none⟩) Nn cap', .bool true]) ∧ Own y.heap.size w' g' cap' (smL (l.take Nn))) ∧ Below y.heap.size y w') := by
    intro y g c h1
    have h3 := rput_yes (some ⟨g, 0, none⟩) c (ZJ 32) 12 4 true (P.sum ((ZJ 32).drop 16)) y h1 (by rw [HZL.out]; omega) (by decide) (by decide) (by rw [HZL.out]; omega) (by omega)
    rw [HZL.out, ← HSD.out] at h3
    exact h3
  generalize smL (l.take Nn) = SM at *
  generalize P.sum ((ZJ 32).drop 16) = S at *
  generalize l.take Nn = m at *
  have hsw : IntKind.u64.wrap (S : Int) = (S : Int) := by rw [IntKind.wrap_u64]; omega
  have hsz : (w.alloc (.cells #[.int .i64 0, .int .i64 0, .int .i64 0, .int .i64 0, .slice none 0 0] 24)).heap.size = w.heap.size + 1 := by simp
  have HEM : Hid (((w.alloc (.cells #[.int .i64 0, .int .i64 0, .int .i64 0, .int .i64 0, .slice none 0 0] 24)).alloc (.cells #[] 5)).ownsRow (w.heap.size + 1) 5 1 (.slice (some ⟨w.heap.size + 1, 0, none⟩) 0 0) 0 []) := by
    have h1 := heap_alloc_new (w.alloc (.cells #[.int .i64 0, .int .i64 0, .int .i64 0, .int .i64 0, .slice none 0 0] 24)) (.cells #[] 5)
    rw [hsz] at h1
    exact ⟨rfl, .inr ⟨w.heap.size + 1, 0, #[], rfl, Nat.le_refl _, h1, Nat.le_refl _, by unfold maxLen; omega, rfl, rfl⟩⟩
  have HBZ : Hid (∀ y, Below (w.heap.size + 1) (w.alloc (.cells #[.int .i64 0, .int .i64 0, .int .i64 0, .int .i64 0, .slice none 0 0] 24)) y → w.heap.size + 1 ≤ y.heap.size) := fun y h => by have h1 := h.size; rw [hsz] at h1; exact h1
  have HBB : Hid (Below (w.heap.size + 1) (w.alloc (.cells #[.int .i64 0, .int .i64 0, .int .i64 0, .int .i64 0, .slice none 0 0] 24)) ((w.alloc (.cells #[.int .i64 0, .int .i64 0, .int .i64 0, .int .i64 0, .slice none 0 0] 24)).alloc (.cells #[] 5))) := by
    have h1 := below_box (w := w.alloc (.cells #[.int .i64 0, .int .i64 0, .int .i64 0, .int .i64 0, .slice none 0 0] 24)) (.cells #[] 5)
    rw [hsz] at h1
    exact h1
  have HRES : Hid (∀ y, Below (w.heap.size + 1) (w.alloc (.cells #[.int .i64 0, .int .i64 0, .int .i64 0, .int .i64 0, .slice none 0 0] 24)) y → y.heap[w.heap.size]? = some (.cells #[.int .i64 0, .int .i64 0, .int .i64 0, .int .i64 0, .slice none 0 0] 24 (0, 0)) ∧ Below w.heap.size w y) := by
    intro y hb
    refine ⟨?_, (below_box _).trans (hb.mono (by omega))⟩
    rw [hb.block w.heap.size (by omega)]
    exact heap_alloc_new w _
  clear hr ht hmb hml HSD HZJ hN hsz
  have tok : True := trivial
  go_enter Tryd.func55, Tryd.ntmps55
  go_wp2_with (at_builtin; have _t := tok; refine wpList_append_row (by rfl) _ _ rfl (w.heap.size + 1) (w.alloc (.cells #[.int .i64 0, .int .i64 0, .int .i64 0, .int .i64 0, .slice none 0 0] 24)) _ 0 [] rfl HEM.out HBB.out (by simp) (some ⟨pb, poff, none⟩) cap m (by rw [HML.out]; rfl) (HRW.out _ _) (fun c => by cases c) (by rw [HML.out]; omega) ?_; clear tok _t; intro v3 w3 hown3 hb3; rw [Nat.zero_add, List.nil_append] at hown3; obtain ⟨g, c0, rfl, ho3⟩ := owns_some hown3 (by rw [HML.out]; omega); have HO3 : Hid (Own (w.heap.size + 1) w3 g c0 m) := ho3; have HB3 : Hid (Below (w.heap.size + 1) (w.alloc (.cells #[.int .i64 0, .int .i64 0, .int .i64 0, .int .i64 0, .slice none 0 0] 24)) w3) := hb3; have HC0 : Hid (Nn ≤ c0 ∧ c0 ≤ maxLen) := (by have := ho3.le; rw [HML.out] at this; exact this); rw [HML.out]; clear hown3 ho3 hb3)
  go_loopw [9] (fun i x => ∃ j : Nat, 16 ≤ j ∧ j ≤ 32 ∧ i = .int .i64 j ∧ Own (w.heap.size + 1) x g c0 (ZJ j) ∧ Below (w.heap.size + 1) (w.alloc (.cells #[.int .i64 0, .int .i64 0, .int .i64 0, .int .i64 0, .slice none 0 0] 24)) x) (fun i _ => 32 - (intOf i).toNat)
  case atStart => exact ⟨16, by omega, by omega, rfl, by rw [HZ0.out]; exact HO3.out, HB3.out⟩
  case round =>
    obtain ⟨j, hj1, hj2, rfl, hown, hbel⟩ := hrel
    by_cases hlt : j < 32
    · have hltI : (j : Int) < 32 := by omega
      have hjN : (j : Int) < (Nn : Int) := by omega
      have hcell := hown.cell j (by rw [HZL.out]; omega)
      have hfree := hown.free j
      have hge := hown.ge
      have HN : Hid (ZJ (j + 1) = (ZJ j).set j 0) := HZS.out j hj1
      generalize (ZJ j).getD j 0 = cc at *
      go_wp2
      refine ⟨⟨j + 1, by omega, by omega, by go_num, ?_, hbel.setCell hge.1 _⟩, by simp [intOf]; omega⟩
      rw [HN.out]
      exact hown.store j 0
    · obtain rfl : j = 32 := by omega
      rw [show ((32 : Nat) : Int) = 32 from rfl]
      have HO : Hid (Row wr (some ⟨g, 0, none⟩) (ZJ 32)) := hown.row (HZB.out 32)
      have HB : Hid (Below (w.heap.size + 1) (w.alloc (.cells #[.int .i64 0, .int .i64 0, .int .i64 0, .int .i64 0, .slice none 0 0] 24)) wr) := hbel
      have ks : ∀ y, (Instr.slice 27 (.slice (some ⟨g, 0, none⟩) Nn c0) (some (.int .i64 16)) none none).run Tryd.prog y = .ok (.slice (cutA (some ⟨g, 0, none⟩) c0 16) (Nn - 16) (c0 - 16)) y := fun y => run_slice_from y _ Nn c0 16 .i64 (by omega)
      clear hown hbel hlt hj1 hj2 HO3 HB3 HZS HZ0 HRW HEM
      go_wp2_with (first
        | (go_at_call 35; refine (HSU.out _ _ _ HO.out HC0.out.1).mono ?_; rintro e wg ⟨rfl, hw⟩; subst wg)
        | (go_at_call 44; refine (HPU.out _ _ _ HO.out).mono ?_; rintro e w4 ⟨⟨g4, c4, rfl, ho4⟩, hb4⟩; have HO4 : Hid (Own wr.heap.size w4 g4 c4 SM) := ho4; have HB4 : Hid (Below (w.heap.size + 1) (w.alloc (.cells #[.int .i64 0, .int .i64 0, .int .i64 0, .int .i64 0, .slice none 0 0] 24)) w4) := HB.out.trans (hb4.mono (HBZ.out _ HB.out)); clear ho4 hb4)
        | (go_at_call 19; refine (HD.out _ _ _ (Tab.below HT.out (HRES.out _ HB4.out).2) (HO4.out.row HSB.out) (by have := HO4.out.le.1; rw [HSL.out] at this; exact this) HO4.out.le.2).mono ?_; rintro e w5 ⟨a5, c5, rfl, hr5, ht5, hb5⟩; have HR5 : Hid (w5.heap[w.heap.size]? = some (.cells #[.int .i64 0, .int .i64 0, .int .i64 0, .int .i64 0, .slice none 0 0] 24 (0, 0)) ∧ Below w.heap.size w w5) := HRES.out _ (HB4.out.trans (hb5.mono (HBZ.out _ HB4.out))); have HRR5 : Hid (RRow w5 a5 RS) := hr5; clear hr5 hb5)
        | (have _t := HR5; refine wpList_store_row rfl 24 _ _ rfl w.heap.size #[.int .i64 x0, .int .i64 x1, .int .i64 x2, .int .i64 x3, .slice a5 RS.length c5] rfl rfl 24 _ HR5.out.1 Tryd.info24 rfl (bat_one _ _ _ _ _ _ _) ?_))
      refine bodyPost_ret (v := .tuple #[.agg #[.int .i64 x0, .int .i64 x1, .int .i64 x2, .int .i64 x3, .slice a5 RS.length c5], .int .i64 M, .int .i64 E]) ?_ rfl ⟨a5, c5, rfl, rrow_res HR5.out.1 HRR5.out, ht5, below_setRow HR5.out.2 (Nat.le_refl _) _⟩
      exact results_bat3 (p := 4) (u := 5) (u2 := 6) (by rfl) _ _ w.heap.size _ _ _ (by rfl) (by rfl) (by rfl) rfl (setRow_heap _ _ _ _ _ _ HR5.out.1)
end Go.Proofs.YtgpeldmplkijlaaDoor
namespace Go.Proofs.YtgpeldmplkijlaaDoor
set_option linter.unusedSimpArgs false
set_option linter.unusedVariables false
open Go.RowKit
set_option maxHeartbeats 3200000 in
set_option maxRecDepth 100000 in
theorem huge_bad (pb poff cap : Nat) (l : List Nat) (w : World) (ht : Tab w) (hr : Row w (some ⟨pb, poff, none⟩) l) (hl2 : l.length ≤ 8000) (h48 : 48 ≤ l.length) (V0 V1 V2 V3 : Nat) (hgo : V2 < 9223372036854775808 ∧ V3 < 9223372036854775808 ∧ ¬ (V2 ≤ 4611686018427387904 ∧ V3 ≤ 4611686018427387904) ∧ 36 ≤ V1 ∧ V1 ≤ l.length - 12 ∧ V1 ≤ 6000)
    (HSM : Hid (∀ y, Tab y → Row y (some ⟨pb, poff, none⟩) l → Calls Tryd.prog 55 #[.slice (some ⟨pb, poff, none⟩) l.length cap, .int .i64 (V1 : Int)] y fun e w' => e = .returned (.tuple #[.agg #[.int .i64 0, .int .i64 0, .int .i64 0, .int .i64 0, .slice none 0 0], .int .i64 0, .int .i64 10]) ∧ Below y.heap.size y w')) :
    Calls Tryd.prog 40 #[.slice (some ⟨pb, poff, none⟩) l.length cap, .int .u64 (V0 : Int), .int .u64 (V1 : Int), .int .u64 (V2 : Int), .int .u64 (V3 : Int)] w fun e w' => e = .returned (.tuple #[.agg #[.int .i64 0, .int .i64 0, .int .i64 0, .int .i64 0, .slice none 0 0], .int .i64 0, .int .i64 10]) ∧ Below w.heap.size w w' := by
  obtain ⟨g1, g2, g3, g4, g5, g6⟩ := hgo
  have HROW : Hid (Row w (some ⟨pb, poff, none⟩) l) := hr
  have HT : Hid (Tab w) := ht
  have HB2 : Hid (∀ y, Below ((w.alloc (.cells #[.int .i64 0, .int .i64 0, .int .i64 0, .int .i64 0, .slice none 0 0] 24)).alloc (.cells #[.int .i64 0, .int .i64 0, .int .i64 0, .int .i64 0, .slice none 0 0] 24)).heap.size ((w.alloc (.cells #[.int .i64 0, .int .i64 0, .int .i64 0, .int .i64 0, .slice none 0 0] 24)).alloc (.cells #[.int .i64 0, .int .i64 0, .int .i64 0, .int .i64 0, .slice none 0 0] 24)) y → y.heap[w.heap.size]? = some (.cells #[.int .i64 0, .int .i64 0, .int .i64 0, .int .i64 0, .slice none 0 0] 24 (0, 0)) ∧ y.heap[w.heap.size + 1]? = some (.cells #[.int .i64 0, .int .i64 0, .int .i64 0, .int .i64 0, .slice none 0 0] 24 (0, 0)) ∧ Below w.heap.size w y) := by
    intro y hb
    obtain ⟨t1, t2, t3⟩ := two_z w
    refine ⟨by rw [hb.block w.heap.size (by simp; omega)]; exact t2, by rw [hb.block (w.heap.size + 1) (by simp)]; exact t3, t1.trans (hb.mono t1.size)⟩
  have HW2 : Hid (∀ o1 o2, Below w.heap.size w ((w.alloc o1).alloc o2)) := fun o1 o2 => (below_box o1).trans ((below_box o2).mono (by simp))
  obtain ⟨Zn, HZ⟩ : ∃ Zn : Nat, Hid (l.length - 12 = Zn) := ⟨_, rfl⟩
  rw [HZ.out] at g5
  have z1 : IntKind.i64.wrap ((l.length : Int) - 12) = (Zn : Int) := by have := HZ.out; rw [IntKind.wrap_i64]; omega
  have z2 : IntKind.u64.wrap (Zn : Int) = (Zn : Int) := by have := HZ.out; rw [IntKind.wrap_u64]; omega
  have a1 : ¬ (9223372036854775808 : Int) ≤ (V2 : Int) := by omega
  have a1d : decide ((9223372036854775808 : Int) ≤ (V2 : Int)) = false := decide_eq_false a1
  have a2 : ¬ (9223372036854775808 : Int) ≤ (V3 : Int) := by omega
  have a2d : decide ((9223372036854775808 : Int) ≤ (V3 : Int)) = false := decide_eq_false a2
  have b1 : ¬ (V1 : Int) < 36 := by omega
  have b1d : decide ((V1 : Int) < 36) = false := decide_eq_false b1
  have b2 : ¬ Zn < V1 := by omega
  have b2d : decide (Zn < V1) = false := decide_eq_false b2
  have b3 : ¬ (6000 : Int) < (V1 : Int) := by omega
  have b3d : decide ((6000 : Int) < (V1 : Int)) = false := decide_eq_false b3
  have m1 : IntKind.i64.wrap (V1 : Int) = (V1 : Int) := by rw [IntKind.wrap_i64]; omega
  have m2 : IntKind.i64.wrap (V2 : Int) = (V2 : Int) := by rw [IntKind.wrap_i64]; omega
  have m3 : IntKind.i64.wrap (V3 : Int) = (V3 : Int) := by rw [IntKind.wrap_i64]; omega
  by_cases a3 : (V2 : Int) ≤ 4611686018427387904
  · have a3d : decide ((V2 : Int) ≤ 4611686018427387904) = true := decide_eq_true a3
    have a4 : ¬ (V3 : Int) ≤ 4611686018427387904 := by omega
    have a4d : decide ((V3 : Int) ≤ 4611686018427387904) = false := decide_eq_false a4
    clear g1 g2 g3 g4 g5 g6
    clear hr ht
    go_enter Tryd.func40, Tryd.ntmps40
    go_wp2_with (first
      | (go_at_call 55; refine (HSM.out _ (Tab.below HT.out (HW2.out _ _)) (Row.below HROW.out (HW2.out _ _))).mono ?_; rintro e w3 ⟨rfl, hb3⟩; have h3 := HB2.out _ hb3; have HR4 : Hid ((w3.alloc (.cells #[.int .i64 0, .int .i64 0, .int .i64 0, .int .i64 0, .slice none 0 0] 24)).heap[w.heap.size]? = some (.cells #[.int .i64 0, .int .i64 0, .int .i64 0, .int .i64 0, .slice none 0 0] 24 (0, 0))) := ((below_box _).block _ (Array.getElem?_eq_some_iff.1 h3.1).1).trans h3.1; have HB4 : Hid (Below w.heap.size w (w3.alloc (.cells #[.int .i64 0, .int .i64 0, .int .i64 0, .int .i64 0, .slice none 0 0] 24))) := h3.2.2.alloc h3.2.2.size _; obtain ⟨n0, n1, n2, n3, n4, nz⟩ := dcr_cells h3.2.1; clear hb3 h3)
      | (have _t := HR4; refine wpList_store_row rfl 24 _ _ rfl w.heap.size #[.int .i64 0, .int .i64 0, .int .i64 0, .int .i64 0, .slice none 0 0] rfl rfl 24 _ HR4.out Tryd.info24 rfl (bat_one _ _ _ _ _ _ _) ?_))
    refine bodyPost_ret (v := .tuple #[.agg #[.int .i64 0, .int .i64 0, .int .i64 0, .int .i64 0, .slice none 0 0], .int .i64 0, .int .i64 10]) ?_ rfl ⟨rfl, below_setRow HB4.out (Nat.le_refl _) _⟩
    exact results_bat3 (p := 10) (u := 11) (u2 := 12) (by rfl) _ _ w.heap.size _ _ _ (by rfl) (by rfl) (by rfl) rfl (setRow_heap _ _ _ _ _ _ HR4.out)
  · have a3d : decide ((V2 : Int) ≤ 4611686018427387904) = false := decide_eq_false a3
    clear g1 g2 g3 g4 g5 g6
    clear hr ht
    go_enter Tryd.func40, Tryd.ntmps40
    go_wp2_with (first
      | (go_at_call 55; refine (HSM.out _ (Tab.below HT.out (HW2.out _ _)) (Row.below HROW.out (HW2.out _ _))).mono ?_; rintro e w3 ⟨rfl, hb3⟩; have h3 := HB2.out _ hb3; have HR4 : Hid ((w3.alloc (.cells #[.int .i64 0, .int .i64 0, .int .i64 0, .int .i64 0, .slice none 0 0] 24)).heap[w.heap.size]? = some (.cells #[.int .i64 0, .int .i64 0, .int .i64 0, .int .i64 0, .slice none 0 0] 24 (0, 0))) := ((below_box _).block _ (Array.getElem?_eq_some_iff.1 h3.1).1).trans h3.1; have HB4 : Hid (Below w.heap.size w (w3.alloc (.cells #[.int .i64 0, .int .i64 0, .int .i64 0, .int .i64 0, .slice none 0 0] 24))) := h3.2.2.alloc h3.2.2.size _; obtain ⟨n0, n1, n2, n3, n4, nz⟩ := dcr_cells h3.2.1; clear hb3 h3)
      | (have _t := HR4; refine wpList_store_row rfl 24 _ _ rfl w.heap.size #[.int .i64 0, .int .i64 0, .int .i64 0, .int .i64 0, .slice none 0 0] rfl rfl 24 _ HR4.out Tryd.info24 rfl (bat_one _ _ _ _ _ _ _) ?_))
    refine bodyPost_ret (v := .tuple #[.agg #[.int .i64 0, .int .i64 0, .int .i64 0, .int .i64 0, .slice none 0 0], .int .i64 0, .int .i64 10]) ?_ rfl ⟨rfl, below_setRow HB4.out (Nat.le_refl _) _⟩
    exact results_bat3 (p := 10) (u := 11) (u2 := 12) (by rfl) _ _ w.heap.size _ _ _ (by rfl) (by rfl) (by rfl) rfl (setRow_heap _ _ _ _ _ _ HR4.out)
set_option maxHeartbeats 6400000 in
set_option maxRecDepth 100000 in
theorem huge_in (pb poff cap : Nat) (l : List Nat) (w : World) (ht : Tab w) (hr : Row w (some ⟨pb, poff, none⟩) l) (hl : l.length ≤ cap) (hl2 : l.length ≤ 8000) (h48 : 48 ≤ l.length) (V0 V1 V2 V3 nn : Nat) (hgo : V2 < 9223372036854775808 ∧ V3 < 9223372036854775808 ∧ ¬ (V2 ≤ 4611686018427387904 ∧ V3 ≤ 4611686018427387904) ∧ 36 ≤ V1 ∧ V1 ≤ l.length - 12 ∧ V1 ≤ 6000)
    (OK : Prop) (x0 x1 x2 x3 : Int) (RS : List Rc) (EL : List Nat) (ck : Int) (hnn : nn ≤ l.length)
    (HSM : Hid (∀ y, Tab y → Row y (some ⟨pb, poff, none⟩) l → Calls Tryd.prog 55 #[.slice (some ⟨pb, poff, none⟩) l.length cap, .int .i64 (V1 : Int)] y fun e w' => ∃ a' c', e = .returned (.tuple #[.agg #[.int .i64 x0, .int .i64 x1, .int .i64 x2, .int .i64 x3, .slice a' RS.length c'], .int .i64 (nn : Int), .int .i64 0]) ∧ RRow w' a' RS ∧ (a' = none → c' = 0) ∧ Below y.heap.size y w'))
    (HEN : Hid (∀ x a' c', Tab x → RRow x a' RS → Calls Tryd.prog 14 #[.agg #[.int .i64 x0, .int .i64 x1, .int .i64 (V2 : Int), .int .i64 (V3 : Int), .slice a' RS.length c']] x fun e w' => ∃ v, e = .returned (.tuple #[v, .int .i64 ck]) ∧ w'.ownsRow x.heap.size 5 1 v EL.length (cv EL) ∧ Below x.heap.size x w'))
    (HEL : Hid (∀ i, EL.getD i 0 < 256)) (HF1 : Hid (ck ≠ 0 → ¬ OK)) (HF3 : Hid (¬ EL = l.take nn → ¬ OK)) (HF4 : Hid (EL = l.take nn → ck = 0 → OK)) :
    Calls Tryd.prog 40 #[.slice (some ⟨pb, poff, none⟩) l.length cap, .int .u64 (V0 : Int), .int .u64 (V1 : Int), .int .u64 (V2 : Int), .int .u64 (V3 : Int)] w fun e w' => DecQ OK x0 x1 (V2 : Int) (V3 : Int) RS nn w e w' := by
  have hlt := hr.lt
  have HSQ : Hid ((¬ EL = l.take nn → ((strN EL).toList == (strN (l.take nn)).toList) = false) ∧ (EL = l.take nn → ((strN EL).toList == (strN (l.take nn)).toList) = true)) := by
    have h1 := str_eq EL (l.take nn) (mem_lt HEL.out) (fun x hx => mem_lt hlt x (List.mem_of_mem_take hx))
    exact ⟨fun h => by rw [h1, decide_eq_false h], fun h => by rw [h1, decide_eq_true h]⟩
  have kt : ∀ y, (Instr.slice 27 (.slice (some ⟨pb, poff, none⟩) l.length cap) none (some (.int .i64 (nn : Int))) none).run Tryd.prog y = .ok (.slice (some ⟨pb, poff, none⟩) nn cap) y := fun y => run_slice_to y ⟨pb, poff, none⟩ l.length cap nn (by omega) hnn
  have HCV : Hid (∀ y, Row y (some ⟨pb, poff, none⟩) l → (convert 27 9 (.slice (some ⟨pb, poff, none⟩) nn cap)).run Tryd.prog y = .ok (.string (strN (l.take nn))) y) := fun y h => conv_take cap h (by omega)
  have HCW : Hid (∀ y a2 k2, Row y a2 EL → (convert 27 9 (.slice a2 EL.length k2)).run Tryd.prog y = .ok (.string (strN EL)) y) := fun y a2 k2 h => conv_row k2 h
  clear hlt
  obtain ⟨g1, g2, g3, g4, g5, g6⟩ := hgo
  have HROW : Hid (Row w (some ⟨pb, poff, none⟩) l) := hr
  have HT : Hid (Tab w) := ht
  have HB2 : Hid (∀ y, Below ((w.alloc (.cells #[.int .i64 0, .int .i64 0, .int .i64 0, .int .i64 0, .slice none 0 0] 24)).alloc (.cells #[.int .i64 0, .int .i64 0, .int .i64 0, .int .i64 0, .slice none 0 0] 24)).heap.size ((w.alloc (.cells #[.int .i64 0, .int .i64 0, .int .i64 0, .int .i64 0, .slice none 0 0] 24)).alloc (.cells #[.int .i64 0, .int .i64 0, .int .i64 0, .int .i64 0, .slice none 0 0] 24)) y → y.heap[w.heap.size]? = some (.cells #[.int .i64 0, .int .i64 0, .int .i64 0, .int .i64 0, .slice none 0 0] 24 (0, 0)) ∧ y.heap[w.heap.size + 1]? = some (.cells #[.int .i64 0, .int .i64 0, .int .i64 0, .int .i64 0, .slice none 0 0] 24 (0, 0)) ∧ Below w.heap.size w y) := by
    intro y hb
    obtain ⟨t1, t2, t3⟩ := two_z w
    refine ⟨by rw [hb.block w.heap.size (by simp; omega)]; exact t2, by rw [hb.block (w.heap.size + 1) (by simp)]; exact t3, t1.trans (hb.mono t1.size)⟩
  have HW2 : Hid (∀ o1 o2, Below w.heap.size w ((w.alloc o1).alloc o2)) := fun o1 o2 => (below_box o1).trans ((below_box o2).mono (by simp))
  obtain ⟨Zn, HZ⟩ : ∃ Zn : Nat, Hid (l.length - 12 = Zn) := ⟨_, rfl⟩
  rw [HZ.out] at g5
  have z1 : IntKind.i64.wrap ((l.length : Int) - 12) = (Zn : Int) := by have := HZ.out; rw [IntKind.wrap_i64]; omega
  have z2 : IntKind.u64.wrap (Zn : Int) = (Zn : Int) := by have := HZ.out; rw [IntKind.wrap_u64]; omega
  have a1 : ¬ (9223372036854775808 : Int) ≤ (V2 : Int) := by omega
  have a1d : decide ((9223372036854775808 : Int) ≤ (V2 : Int)) = false := decide_eq_false a1
  have a2 : ¬ (9223372036854775808 : Int) ≤ (V3 : Int) := by omega
  have a2d : decide ((9223372036854775808 : Int) ≤ (V3 : Int)) = false := decide_eq_false a2
  have b1 : ¬ (V1 : Int) < 36 := by omega
  have b1d : decide ((V1 : Int) < 36) = false := decide_eq_false b1
  have b2 : ¬ Zn < V1 := by omega
  have b2d : decide (Zn < V1) = false := decide_eq_false b2
  have b3 : ¬ (6000 : Int) < (V1 : Int) := by omega
  have b3d : decide ((6000 : Int) < (V1 : Int)) = false := decide_eq_false b3
  have m1 : IntKind.i64.wrap (V1 : Int) = (V1 : Int) := by rw [IntKind.wrap_i64]; omega
  have m2 : IntKind.i64.wrap (V2 : Int) = (V2 : Int) := by rw [IntKind.wrap_i64]; omega
  have m3 : IntKind.i64.wrap (V3 : Int) = (V3 : Int) := by rw [IntKind.wrap_i64]; omega
  by_cases a3 : (V2 : Int) ≤ 4611686018427387904
  · have a3d : decide ((V2 : Int) ≤ 4611686018427387904) = true := decide_eq_true a3
    have a4 : ¬ (V3 : Int) ≤ 4611686018427387904 := by omega
    have a4d : decide ((V3 : Int) ≤ 4611686018427387904) = false := decide_eq_false a4
    clear g1 g2 g3 g4 g5 g6
    clear hr ht
    by_cases hck : ck = 0
    · subst hck
      by_cases hE : EL = l.take nn
      · have HOK : Hid OK := HF4.out hE rfl
        have hst := HSQ.out.2 hE
        clear HF1 HF3 HF4 HSQ hE
        generalize strN (l.take nn) = S2 at *
        generalize strN EL = S1 at *
        go_enter Tryd.func40, Tryd.ntmps40
        go_wp2_with (first
          | (go_at_call 55; refine (HSM.out _ (Tab.below HT.out (HW2.out _ _)) (Row.below HROW.out (HW2.out _ _))).mono ?_; rintro e w3 ⟨a3', c3', rfl, hr3, hn3, hb3⟩; have HQ3 : Hid _ := HB2.out _ hb3; have HR3 : Hid (RRow w3 a3' RS) := hr3; have HN3 : Hid (a3' = none → c3' = 0) := hn3; clear hb3 hr3 hn3)
          | (go_at_call 14; refine (HEN.out _ _ _ (Tab.below (Tab.below HT.out HQ3.out.2.2) (below_box _)) (RRow.below HR3.out (below_box _))).mono ?_; rintro e w4 ⟨v4, rfl, ho4, hb4⟩; obtain ⟨a4', q4, rfl, hr4, _⟩ := owns_sl ho4 HEL.out; have HX4 : Hid (BxS w3 #[.int .i64 x0, .int .i64 x1, .int .i64 (V2 : Int), .int .i64 (V3 : Int), .slice a3' RS.length c3'] w4) := BxS.below (BxS.new w3 _) hb4; have HR4 : Hid (RRow w4 a3' RS) := RRow.below (RRow.below HR3.out (below_box _)) hb4; have HRES : Hid (w4.heap[w.heap.size]? = some (.cells #[.int .i64 0, .int .i64 0, .int .i64 0, .int .i64 0, .slice none 0 0] 24 (0, 0))) := (HX4.out.bel.block _ (Array.getElem?_eq_some_iff.1 HQ3.out.1).1).trans HQ3.out.1; have HNON : Hid (w4.heap[w.heap.size + 1]? = some (.cells #[.int .i64 0, .int .i64 0, .int .i64 0, .int .i64 0, .slice none 0 0] 24 (0, 0))) := (HX4.out.bel.block _ (Array.getElem?_eq_some_iff.1 HQ3.out.2.1).1).trans HQ3.out.2.1; have HB4 : Hid (Below w.heap.size w w4) := HQ3.out.2.2.trans (HX4.out.bel.mono HQ3.out.2.2.size); have kc1 : ∀ n, (convert 27 9 (.slice a4' EL.length q4)).run Tryd.prog (w4.drewN n) = .ok (.string S1) (w4.drewN n) := (fun n => HCW.out _ _ _ (Row.drewN hr4 n)); have kc2 : ∀ n, (convert 27 9 (.slice (some ⟨pb, poff, none⟩) nn cap)).run Tryd.prog (w4.drewN n) = .ok (.string S2) (w4.drewN n) := (fun n => HCV.out _ (Row.drewN (Row.below HROW.out HB4.out) n)); obtain ⟨n0, n1, n2, n3, n4, nz⟩ := dcr_cells HNON.out; obtain ⟨k0, k1, k2, k3, k4, kz⟩ := dcr_cells HX4.out.box; clear ho4 hb4 hr4 HX4 HNON HQ3))
        go_quiet (fail)
        have HR5 : Hid ((w4.drewN nq).heap[w.heap.size]? = some (.cells #[.int .i64 0, .int .i64 0, .int .i64 0, .int .i64 0, .slice none 0 0] 24 (0, 0))) := HRES.out
        have HB5 : Hid (Below w.heap.size w (w4.drewN nq)) := below_drewN HB4.out _
        go_wp2_with (have _t := HR5; refine wpList_store_row rfl 24 _ _ rfl w.heap.size #[.int .i64 x0, .int .i64 x1, .int .i64 (V2 : Int), .int .i64 (V3 : Int), .slice a3' RS.length c3'] rfl rfl 24 _ HR5.out Tryd.info24 rfl (bat_one _ _ _ _ _ _ _) ?_)
        refine bodyPost_ret (v := .tuple #[.agg #[.int .i64 x0, .int .i64 x1, .int .i64 (V2 : Int), .int .i64 (V3 : Int), .slice a3' RS.length c3'], .int .i64 (nn : Int), .int .i64 0]) ?_ rfl ⟨fun _ => ⟨a3', c3', rfl, rrow_res HR5.out (RRow.below HR4.out (below_drewN (Below.refl _ _) _)), HN3.out⟩, fun h => absurd HOK.out h, below_setRow HB5.out (Nat.le_refl _) _⟩
        exact results_bat3 (p := 10) (u := 11) (u2 := 12) (by rfl) _ _ w.heap.size _ _ _ (by rfl) (by rfl) (by rfl) rfl (setRow_heap _ _ _ _ _ _ HR5.out)
      · have HNO : Hid (¬ OK) := HF3.out hE
        have hst := HSQ.out.1 hE
        clear HF1 HF3 HF4 HSQ hE
        generalize strN (l.take nn) = S2 at *
        generalize strN EL = S1 at *
        go_enter Tryd.func40, Tryd.ntmps40
        go_wp2_with (first
          | (go_at_call 55; refine (HSM.out _ (Tab.below HT.out (HW2.out _ _)) (Row.below HROW.out (HW2.out _ _))).mono ?_; rintro e w3 ⟨a3', c3', rfl, hr3, hn3, hb3⟩; have HQ3 : Hid _ := HB2.out _ hb3; have HR3 : Hid (RRow w3 a3' RS) := hr3; have HN3 : Hid (a3' = none → c3' = 0) := hn3; clear hb3 hr3 hn3)
          | (go_at_call 14; refine (HEN.out _ _ _ (Tab.below (Tab.below HT.out HQ3.out.2.2) (below_box _)) (RRow.below HR3.out (below_box _))).mono ?_; rintro e w4 ⟨v4, rfl, ho4, hb4⟩; obtain ⟨a4', q4, rfl, hr4, _⟩ := owns_sl ho4 HEL.out; have HX4 : Hid (BxS w3 #[.int .i64 x0, .int .i64 x1, .int .i64 (V2 : Int), .int .i64 (V3 : Int), .slice a3' RS.length c3'] w4) := BxS.below (BxS.new w3 _) hb4; have HR4 : Hid (RRow w4 a3' RS) := RRow.below (RRow.below HR3.out (below_box _)) hb4; have HRES : Hid (w4.heap[w.heap.size]? = some (.cells #[.int .i64 0, .int .i64 0, .int .i64 0, .int .i64 0, .slice none 0 0] 24 (0, 0))) := (HX4.out.bel.block _ (Array.getElem?_eq_some_iff.1 HQ3.out.1).1).trans HQ3.out.1; have HNON : Hid (w4.heap[w.heap.size + 1]? = some (.cells #[.int .i64 0, .int .i64 0, .int .i64 0, .int .i64 0, .slice none 0 0] 24 (0, 0))) := (HX4.out.bel.block _ (Array.getElem?_eq_some_iff.1 HQ3.out.2.1).1).trans HQ3.out.2.1; have HB4 : Hid (Below w.heap.size w w4) := HQ3.out.2.2.trans (HX4.out.bel.mono HQ3.out.2.2.size); have kc1 : ∀ n, (convert 27 9 (.slice a4' EL.length q4)).run Tryd.prog (w4.drewN n) = .ok (.string S1) (w4.drewN n) := (fun n => HCW.out _ _ _ (Row.drewN hr4 n)); have kc2 : ∀ n, (convert 27 9 (.slice (some ⟨pb, poff, none⟩) nn cap)).run Tryd.prog (w4.drewN n) = .ok (.string S2) (w4.drewN n) := (fun n => HCV.out _ (Row.drewN (Row.below HROW.out HB4.out) n)); obtain ⟨n0, n1, n2, n3, n4, nz⟩ := dcr_cells HNON.out; obtain ⟨k0, k1, k2, k3, k4, kz⟩ := dcr_cells HX4.out.box; clear ho4 hb4 hr4 HX4 HNON HQ3))
        go_quiet (fail)
        have HR5 : Hid ((w4.drewN nq).heap[w.heap.size]? = some (.cells #[.int .i64 0, .int .i64 0, .int .i64 0, .int .i64 0, .slice none 0 0] 24 (0, 0))) := HRES.out
        have HB5 : Hid (Below w.heap.size w (w4.drewN nq)) := below_drewN HB4.out _
        go_wp2_with (have _t := HR5; refine wpList_store_row rfl 24 _ _ rfl w.heap.size #[.int .i64 0, .int .i64 0, .int .i64 0, .int .i64 0, .slice none 0 0] rfl rfl 24 _ HR5.out Tryd.info24 rfl (bat_one _ _ _ _ _ _ _) ?_)
        refine bodyPost_ret (v := .tuple #[.agg #[.int .i64 0, .int .i64 0, .int .i64 0, .int .i64 0, .slice none 0 0], .int .i64 0, .int .i64 10]) ?_ rfl ⟨fun h => absurd h HNO.out, fun _ => rfl, below_setRow HB5.out (Nat.le_refl _) _⟩
        exact results_bat3 (p := 10) (u := 11) (u2 := 12) (by rfl) _ _ w.heap.size _ _ _ (by rfl) (by rfl) (by rfl) rfl (setRow_heap _ _ _ _ _ _ HR5.out)
    · have HNO : Hid (¬ OK) := HF1.out hck
      have hcn : (ck != 0) = true := by rw [bne_iff_ne]; exact hck
      clear HF1 HF3 HF4 HSQ hck HCV HCW kt
      go_enter Tryd.func40, Tryd.ntmps40
      go_wp2_with (first
        | (go_at_call 55; refine (HSM.out _ (Tab.below HT.out (HW2.out _ _)) (Row.below HROW.out (HW2.out _ _))).mono ?_; rintro e w3 ⟨a3', c3', rfl, hr3, hn3, hb3⟩; have HQ3 : Hid _ := HB2.out _ hb3; have HR3 : Hid (RRow w3 a3' RS) := hr3; have HN3 : Hid (a3' = none → c3' = 0) := hn3; clear hb3 hr3 hn3)
        | (go_at_call 14; refine (HEN.out _ _ _ (Tab.below (Tab.below HT.out HQ3.out.2.2) (below_box _)) (RRow.below HR3.out (below_box _))).mono ?_; rintro e w4 ⟨v4, rfl, ho4, hb4⟩; obtain ⟨a4', q4, rfl, hr4, _⟩ := owns_sl ho4 HEL.out; have HX4 : Hid (BxS w3 #[.int .i64 x0, .int .i64 x1, .int .i64 (V2 : Int), .int .i64 (V3 : Int), .slice a3' RS.length c3'] w4) := BxS.below (BxS.new w3 _) hb4; have HR4 : Hid (RRow w4 a3' RS) := RRow.below (RRow.below HR3.out (below_box _)) hb4; have HRES : Hid (w4.heap[w.heap.size]? = some (.cells #[.int .i64 0, .int .i64 0, .int .i64 0, .int .i64 0, .slice none 0 0] 24 (0, 0))) := (HX4.out.bel.block _ (Array.getElem?_eq_some_iff.1 HQ3.out.1).1).trans HQ3.out.1; have HNON : Hid (w4.heap[w.heap.size + 1]? = some (.cells #[.int .i64 0, .int .i64 0, .int .i64 0, .int .i64 0, .slice none 0 0] 24 (0, 0))) := (HX4.out.bel.block _ (Array.getElem?_eq_some_iff.1 HQ3.out.2.1).1).trans HQ3.out.2.1; have HB4 : Hid (Below w.heap.size w w4) := HQ3.out.2.2.trans (HX4.out.bel.mono HQ3.out.2.2.size); obtain ⟨n0, n1, n2, n3, n4, nz⟩ := dcr_cells HNON.out; obtain ⟨k0, k1, k2, k3, k4, kz⟩ := dcr_cells HX4.out.box; clear ho4 hb4 hr4 HX4 HNON HQ3))
      go_quiet (fail)
      have HR5 : Hid ((w4.drewN nq).heap[w.heap.size]? = some (.cells #[.int .i64 0, .int .i64 0, .int .i64 0, .int .i64 0, .slice none 0 0] 24 (0, 0))) := HRES.out
      have HB5 : Hid (Below w.heap.size w (w4.drewN nq)) := below_drewN HB4.out _
      go_wp2_with (have _t := HR5; refine wpList_store_row rfl 24 _ _ rfl w.heap.size #[.int .i64 0, .int .i64 0, .int .i64 0, .int .i64 0, .slice none 0 0] rfl rfl 24 _ HR5.out Tryd.info24 rfl (bat_one _ _ _ _ _ _ _) ?_)
      refine bodyPost_ret (v := .tuple #[.agg #[.int .i64 0, .int .i64 0, .int .i64 0, .int .i64 0, .slice none 0 0], .int .i64 0, .int .i64 10]) ?_ rfl ⟨fun h => absurd h HNO.out, fun _ => rfl, below_setRow HB5.out (Nat.le_refl _) _⟩
      exact results_bat3 (p := 10) (u := 11) (u2 := 12) (by rfl) _ _ w.heap.size _ _ _ (by rfl) (by rfl) (by rfl) rfl (setRow_heap _ _ _ _ _ _ HR5.out)
  · have a3d : decide ((V2 : Int) ≤ 4611686018427387904) = false := decide_eq_false a3
    clear g1 g2 g3 g4 g5 g6
    clear hr ht
    by_cases hck : ck = 0
    · subst hck
      by_cases hE : EL = l.take nn
      · have HOK : Hid OK := HF4.out hE rfl
        have hst := HSQ.out.2 hE
        clear HF1 HF3 HF4 HSQ hE
        generalize strN (l.take nn) = S2 at *
        generalize strN EL = S1 at *
        go_enter Tryd.func40, Tryd.ntmps40
        go_wp2_with (first
          | (go_at_call 55; refine (HSM.out _ (Tab.below HT.out (HW2.out _ _)) (Row.below HROW.out (HW2.out _ _))).mono ?_; rintro e w3 ⟨a3', c3', rfl, hr3, hn3, hb3⟩; have HQ3 : Hid _ := HB2.out _ hb3; have HR3 : Hid (RRow w3 a3' RS) := hr3; have HN3 : Hid (a3' = none → c3' = 0) := hn3; clear hb3 hr3 hn3)
          | (go_at_call 14; refine (HEN.out _ _ _ (Tab.below (Tab.below HT.out HQ3.out.2.2) (below_box _)) (RRow.below HR3.out (below_box _))).mono ?_; rintro e w4 ⟨v4, rfl, ho4, hb4⟩; obtain ⟨a4', q4, rfl, hr4, _⟩ := owns_sl ho4 HEL.out; have HX4 : Hid (BxS w3 #[.int .i64 x0, .int .i64 x1, .int .i64 (V2 : Int), .int .i64 (V3 : Int), .slice a3' RS.length c3'] w4) := BxS.below (BxS.new w3 _) hb4; have HR4 : Hid (RRow w4 a3' RS) := RRow.below (RRow.below HR3.out (below_box _)) hb4; have HRES : Hid (w4.heap[w.heap.size]? = some (.cells #[.int .i64 0, .int .i64 0, .int .i64 0, .int .i64 0, .slice none 0 0] 24 (0, 0))) := (HX4.out.bel.block _ (Array.getElem?_eq_some_iff.1 HQ3.out.1).1).trans HQ3.out.1; have HNON : Hid (w4.heap[w.heap.size + 1]? = some (.cells #[.int .i64 0, .int .i64 0, .int .i64 0, .int .i64 0, .slice none 0 0] 24 (0, 0))) := (HX4.out.bel.block _ (Array.getElem?_eq_some_iff.1 HQ3.out.2.1).1).trans HQ3.out.2.1; have HB4 : Hid (Below w.heap.size w w4) := HQ3.out.2.2.trans (HX4.out.bel.mono HQ3.out.2.2.size); have kc1 : ∀ n, (convert 27 9 (.slice a4' EL.length q4)).run Tryd.prog (w4.drewN n) = .ok (.string S1) (w4.drewN n) := (fun n => HCW.out _ _ _ (Row.drewN hr4 n)); have kc2 : ∀ n, (convert 27 9 (.slice (some ⟨pb, poff, none⟩) nn cap)).run Tryd.prog (w4.drewN n) = .ok (.string S2) (w4.drewN n) := (fun n => HCV.out _ (Row.drewN (Row.below HROW.out HB4.out) n)); obtain ⟨n0, n1, n2, n3, n4, nz⟩ := dcr_cells HNON.out; obtain ⟨k0, k1, k2, k3, k4, kz⟩ := dcr_cells HX4.out.box; clear ho4 hb4 hr4 HX4 HNON HQ3))
        go_quiet (fail)
        have HR5 : Hid ((w4.drewN nq).heap[w.heap.size]? = some (.cells #[.int .i64 0, .int .i64 0, .int .i64 0, .int .i64 0, .slice none 0 0] 24 (0, 0))) := HRES.out
        have HB5 : Hid (Below w.heap.size w (w4.drewN nq)) := below_drewN HB4.out _
        go_wp2_with (have _t := HR5; refine wpList_store_row rfl 24 _ _ rfl w.heap.size #[.int .i64 x0, .int .i64 x1, .int .i64 (V2 : Int), .int .i64 (V3 : Int), .slice a3' RS.length c3'] rfl rfl 24 _ HR5.out Tryd.info24 rfl (bat_one _ _ _ _ _ _ _) ?_)
        refine bodyPost_ret (v := .tuple #[.agg #[.int .i64 x0, .int .i64 x1, .int .i64 (V2 : Int), .int .i64 (V3 : Int), .slice a3' RS.length c3'], .int .i64 (nn : Int), .int .i64 0]) ?_ rfl ⟨fun _ => ⟨a3', c3', rfl, rrow_res HR5.out (RRow.below HR4.out (below_drewN (Below.refl _ _) _)), HN3.out⟩, fun h => absurd HOK.out h, below_setRow HB5.out (Nat.le_refl _) _⟩
        exact results_bat3 (p := 10) (u := 11) (u2 := 12) (by rfl) _ _ w.heap.size _ _ _ (by rfl) (by rfl) (by rfl) rfl (setRow_heap _ _ _ _ _ _ HR5.out)
      · have HNO : Hid (¬ OK) := HF3.out hE
        have hst := HSQ.out.1 hE
        clear HF1 HF3 HF4 HSQ hE
        generalize strN (l.take nn) = S2 at *
        generalize strN EL = S1 at *
        go_enter Tryd.func40, Tryd.ntmps40
        go_wp2_with (first
          | (go_at_call 55; refine (HSM.out _ (Tab.below HT.out (HW2.out _ _)) (Row.below HROW.out (HW2.out _ _))).mono ?_; rintro e w3 ⟨a3', c3', rfl, hr3, hn3, hb3⟩; have HQ3 : Hid _ := HB2.out _ hb3; have HR3 : Hid (RRow w3 a3' RS) := hr3; have HN3 : Hid (a3' = none → c3' = 0) := hn3; clear hb3 hr3 hn3)
          | (go_at_call 14; refine (HEN.out _ _ _ (Tab.below (Tab.below HT.out HQ3.out.2.2) (below_box _)) (RRow.below HR3.out (below_box _))).mono ?_; rintro e w4 ⟨v4, rfl, ho4, hb4⟩; obtain ⟨a4', q4, rfl, hr4, _⟩ := owns_sl ho4 HEL.out; have HX4 : Hid (BxS w3 #[.int .i64 x0, .int .i64 x1, .int .i64 (V2 : Int), .int .i64 (V3 : Int), .slice a3' RS.length c3'] w4) := BxS.below (BxS.new w3 _) hb4; have HR4 : Hid (RRow w4 a3' RS) := RRow.below (RRow.below HR3.out (below_box _)) hb4; have HRES : Hid (w4.heap[w.heap.size]? = some (.cells #[.int .i64 0, .int .i64 0, .int .i64 0, .int .i64 0, .slice none 0 0] 24 (0, 0))) := (HX4.out.bel.block _ (Array.getElem?_eq_some_iff.1 HQ3.out.1).1).trans HQ3.out.1; have HNON : Hid (w4.heap[w.heap.size + 1]? = some (.cells #[.int .i64 0, .int .i64 0, .int .i64 0, .int .i64 0, .slice none 0 0] 24 (0, 0))) := (HX4.out.bel.block _ (Array.getElem?_eq_some_iff.1 HQ3.out.2.1).1).trans HQ3.out.2.1; have HB4 : Hid (Below w.heap.size w w4) := HQ3.out.2.2.trans (HX4.out.bel.mono HQ3.out.2.2.size); have kc1 : ∀ n, (convert 27 9 (.slice a4' EL.length q4)).run Tryd.prog (w4.drewN n) = .ok (.string S1) (w4.drewN n) := (fun n => HCW.out _ _ _ (Row.drewN hr4 n)); have kc2 : ∀ n, (convert 27 9 (.slice (some ⟨pb, poff, none⟩) nn cap)).run Tryd.prog (w4.drewN n) = .ok (.string S2) (w4.drewN n) := (fun n => HCV.out _ (Row.drewN (Row.below HROW.out HB4.out) n)); obtain ⟨n0, n1, n2, n3, n4, nz⟩ := dcr_cells HNON.out; obtain ⟨k0, k1, k2, k3, k4, kz⟩ := dcr_cells HX4.out.box; clear ho4 hb4 hr4 HX4 HNON HQ3))
        go_quiet (fail)
        have HR5 : Hid ((w4.drewN nq).heap[w.heap.size]? = some (.cells #[.int .i64 0, .int .i64 0, .int .i64 0, .int .i64 0, .slice none 0 0] 24 (0, 0))) := HRES.out
        have HB5 : Hid (Below w.heap.size w (w4.drewN nq)) := below_drewN HB4.out _
        go_wp2_with (have _t := HR5; refine wpList_store_row rfl 24 _ _ rfl w.heap.size #[.int .i64 0, .int .i64 0, .int .i64 0, .int .i64 0, .slice none 0 0] rfl rfl 24 _ HR5.out Tryd.info24 rfl (bat_one _ _ _ _ _ _ _) ?_)
        refine bodyPost_ret (v := .tuple #[.agg #[.int .i64 0, .int .i64 0, .int .i64 0, .int .i64 0, .slice none 0 0], .int .i64 0, .int .i64 10]) ?_ rfl ⟨fun h => absurd h HNO.out, fun _ => rfl, below_setRow HB5.out (Nat.le_refl _) _⟩
        exact results_bat3 (p := 10) (u := 11) (u2 := 12) (by rfl) _ _ w.heap.size _ _ _ (by rfl) (by rfl) (by rfl) rfl (setRow_heap _ _ _ _ _ _ HR5.out)
    · have HNO : Hid (¬ OK) := HF1.out hck
      have hcn : (ck != 0) = true := by rw [bne_iff_ne]; exact hck
      clear HF1 HF3 HF4 HSQ hck HCV HCW kt
      go_enter Tryd.func40, Tryd.ntmps40
      go_wp2_with (first
        | (go_at_call 55; refine (HSM.out _ (Tab.below HT.out (HW2.out _ _)) (Row.below HROW.out (HW2.out _ _))).mono ?_; rintro e w3 ⟨a3', c3', rfl, hr3, hn3, hb3⟩; have HQ3 : Hid _ := HB2.out _ hb3; have HR3 : Hid (RRow w3 a3' RS) := hr3; have HN3 : Hid (a3' = none → c3' = 0) := hn3; clear hb3 hr3 hn3)
        | (go_at_call 14; refine (HEN.out _ _ _ (Tab.below (Tab.below HT.out HQ3.out.2.2) (below_box _)) (RRow.below HR3.out (below_box _))).mono ?_; rintro e w4 ⟨v4, rfl, ho4, hb4⟩; obtain ⟨a4', q4, rfl, hr4, _⟩ := owns_sl ho4 HEL.out; have HX4 : Hid (BxS w3 #[.int .i64 x0, .int .i64 x1, .int .i64 (V2 : Int), .int .i64 (V3 : Int), .slice a3' RS.length c3'] w4) := BxS.below (BxS.new w3 _) hb4; have HR4 : Hid (RRow w4 a3' RS) := RRow.below (RRow.below HR3.out (below_box _)) hb4; have HRES : Hid (w4.heap[w.heap.size]? = some (.cells #[.int .i64 0, .int .i64 0, .int .i64 0, .int .i64 0, .slice none 0 0] 24 (0, 0))) := (HX4.out.bel.block _ (Array.getElem?_eq_some_iff.1 HQ3.out.1).1).trans HQ3.out.1; have HNON : Hid (w4.heap[w.heap.size + 1]? = some (.cells #[.int .i64 0, .int .i64 0, .int .i64 0, .int .i64 0, .slice none 0 0] 24 (0, 0))) := (HX4.out.bel.block _ (Array.getElem?_eq_some_iff.1 HQ3.out.2.1).1).trans HQ3.out.2.1; have HB4 : Hid (Below w.heap.size w w4) := HQ3.out.2.2.trans (HX4.out.bel.mono HQ3.out.2.2.size); obtain ⟨n0, n1, n2, n3, n4, nz⟩ := dcr_cells HNON.out; obtain ⟨k0, k1, k2, k3, k4, kz⟩ := dcr_cells HX4.out.box; clear ho4 hb4 hr4 HX4 HNON HQ3))
      go_quiet (fail)
      have HR5 : Hid ((w4.drewN nq).heap[w.heap.size]? = some (.cells #[.int .i64 0, .int .i64 0, .int .i64 0, .int .i64 0, .slice none 0 0] 24 (0, 0))) := HRES.out
      have HB5 : Hid (Below w.heap.size w (w4.drewN nq)) := below_drewN HB4.out _
      go_wp2_with (have _t := HR5; refine wpList_store_row rfl 24 _ _ rfl w.heap.size #[.int .i64 0, .int .i64 0, .int .i64 0, .int .i64 0, .slice none 0 0] rfl rfl 24 _ HR5.out Tryd.info24 rfl (bat_one _ _ _ _ _ _ _) ?_)
      refine bodyPost_ret (v := .tuple #[.agg #[.int .i64 0, .int .i64 0, .int .i64 0, .int .i64 0, .slice none 0 0], .int .i64 0, .int .i64 10]) ?_ rfl ⟨fun h => absurd h HNO.out, fun _ => rfl, below_setRow HB5.out (Nat.le_refl _) _⟩
      exact results_bat3 (p := 10) (u := 11) (u2 := 12) (by rfl) _ _ w.heap.size _ _ _ (by rfl) (by rfl) (by rfl) rfl (setRow_heap _ _ _ _ _ _ HR5.out)
/-- What huge tells of bytes that the quick look refuses. -/
theorem huge_any (pb poff cap : Nat) (l : List Nat) (w : World) (ht : Tab w) (hr : Row w (some ⟨pb, poff, none⟩) l) (hl : l.length ≤ cap) (hc : cap ≤ maxLen) (hl2 : l.length ≤ 8000) (h48 : 48 ≤ l.length) (hq : ¬ Ql l) :
    Calls Tryd.prog 40 #[.slice (some ⟨pb, poff, none⟩) l.length cap, .int .u64 ((getV l 0 8 true : Nat) : Int), .int .u64 ((getV l 8 4 true : Nat) : Int), .int .u64 ((getV l 16 8 true : Nat) : Int), .int .u64 ((getV l 24 8 true : Nat) : Int)] w fun e w' => DecP l w e w' := by
  have hmem : ∀ x, x ∈ l → x < 256 := mem_lt hr.lt
  by_cases hgo : getV l 16 8 true < 9223372036854775808 ∧ getV l 24 8 true < 9223372036854775808 ∧ ¬ (getV l 16 8 true ≤ 4611686018427387904 ∧ getV l 24 8 true ≤ 4611686018427387904) ∧ 36 ≤ getV l 8 4 true ∧ getV l 8 4 true ≤ l.length - 12 ∧ getV l 8 4 true ≤ 6000
  · obtain ⟨hN48, hNl, hN6⟩ : 48 ≤ lenN l ∧ lenN l ≤ l.length ∧ lenN l ≤ 6012 := by
      obtain ⟨_, _, _, s1, s2, s3⟩ := hgo
      have hN : lenN l = 12 + getV l 8 4 true := rfl
      rw [hN]
      clear hN hq
      generalize getV l 8 4 true = X at *
      omega
    obtain ⟨z1, z2⟩ := sm_small (l.take (lenN l)) (by rw [List.length_take, Nat.min_eq_left hNl]; exact hN48)
    have hsl : (smL (l.take (lenN l))).length ≤ l.length := by rw [smL_len, List.length_take]; exact Nat.min_le_right _ _
    have hdb : ∀ y g c, Tab y → Row y (some ⟨g, 0, none⟩) (smL (l.take (lenN l))) → (smL (l.take (lenN l))).length ≤ c → c ≤ maxLen → Calls Tryd.prog 19 #[.slice (some ⟨g, 0, none⟩) (smL (l.take (lenN l))).length c] y fun e w' => DecP (smL (l.take (lenN l))) y e w' := fun y g c t1 t2 t3 t4 => rdb_small _ c _ y t1 t2 t3 t4 (Nat.le_trans hsl hl2) (by rw [z1]; decide) (by rw [z2]; decide)
    have hto := fun h => huge_to hmem (l := l) h
    have hp64 : ((getV l 16 8 true : Nat) : Int) ≤ 9223372036854775807 ∧ ((getV l 24 8 true : Nat) : Int) ≤ 9223372036854775807 := by
      have h1 := hgo.1
      have h2 := hgo.2.1
      clear hgo hq z1 z2 hto hdb hsl
      exact ⟨by clear h2; generalize getV l 16 8 true = X at *; omega, by clear h1; generalize getV l 24 8 true = X at *; omega⟩
    by_cases hok : OkB (smL (l.take (lenN l)))
    · generalize hQ : smL (l.take (lenN l)) = Q at *
      have hnQ : lenN Q ≤ l.length := Nat.le_trans hok.nl hsl
      have hi : In64B (wiP (bOf Q) (getV l 16 8 true : Nat) (getV l 24 8 true : Nat)) := hp64
      have hEB : ∀ i, (encBR (wiP (bOf Q) (getV l 16 8 true : Nat) (getV l 24 8 true : Nat))).getD i 0 < 256 := by
        unfold encBR
        split
        · rename_i h; exact lt_mem (encB_mem (chk_parts h).1)
        · intro i; simp
      have hrl : (bOf Q).rs.length ≤ maxLen := Nat.le_trans (wr_len hok.wr).1 (by decide)
      have key := huge_in pb poff cap l w ht hr hl hl2 h48 (getV l 0 8 true) (getV l 8 4 true) (getV l 16 8 true) (getV l 24 8 true) (lenN Q) hgo (OkB l) (bOf Q).base (bOf Q).span (bOf Q).prod (bOf Q).seq (bOf Q).rs (encBR (wiP (bOf Q) (getV l 16 8 true : Nat) (getV l 24 8 true : Nat))) (chkB (wiP (bOf Q) (getV l 16 8 true : Nat) (getV l 24 8 true : Nat))) hnQ
        (fun y t1 t2 => smaller_any pb poff cap l y t1 t2 (getV l 8 4 true) (lenN l) rfl hN48 hNl hN6 hl hc _ _ _ _ _ _ _ (fun a' c' => a' = none → c' = 0) (fun y g c t1 t2 t3 t4 => by
          rw [hQ] at t2 t3 ⊢
          refine (hdb y g c t1 t2 t3 t4).mono ?_
          rintro e w' ⟨h1, _, hb⟩
          obtain ⟨a', c', rfl, h2, h3⟩ := h1 hok
          exact ⟨a', c', rfl, h2, h3, hb⟩))
        (fun x a' c' t1 t2 => rencodeB_any (wiP (bOf Q) (getV l 16 8 true : Nat) (getV l 24 8 true : Nat)) a' c' hi hrl x t1 t2)
        hEB
        (fun h h2 => h (by rw [(hto h2).2.1]; exact (hto h2).2.2.2.1))
        (fun h h2 => h (by
          obtain ⟨_, e1, e2, e3, e4⟩ := hto h2
          rw [e1]
          unfold encBR
          rw [if_pos e3, e2]
          exact e4))
        (fun h h2 => (huge_from hnQ hi h2 (by unfold encBR at h; rw [if_pos h2] at h; exact h)).1)
      refine key.mono ?_
      rintro e w' ⟨h1, h2, hb⟩
      refine ⟨fun h => ?_, h2, hb⟩
      obtain ⟨a', c', rfl, h3, h4⟩ := h1 h
      obtain ⟨_, e1, e2, _⟩ := hto h
      rw [← e1, ← e2]
      exact ⟨a', c', rfl, h3, h4⟩
    · have hnok : ¬ OkB l := fun h => hok (hto h).1
      refine (huge_bad pb poff cap l w ht hr hl2 h48 (getV l 0 8 true) (getV l 8 4 true) (getV l 16 8 true) (getV l 24 8 true) hgo (fun y t1 t2 => ?_)).mono ?_
      · refine (smaller_any pb poff cap l y t1 t2 (getV l 8 4 true) (lenN l) rfl hN48 hNl hN6 hl hc 0 0 0 0 0 10 [] (fun a' c' => a' = none ∧ c' = 0) (fun y g c t1 t2 t3 t4 => ?_)).mono ?_
        · refine (hdb y g c t1 t2 t3 t4).mono ?_
          rintro e w' ⟨_, h1, hb⟩
          exact ⟨none, 0, h1 hok, RRow.nil _ _, ⟨rfl, rfl⟩, hb⟩
        · rintro e w' ⟨a', c', rfl, _, ⟨rfl, rfl⟩, hb⟩
          exact ⟨rfl, hb⟩
      · rintro e w' ⟨rfl, hb⟩
        exact ⟨fun h => absurd h hnok, fun _ => rfl, hb⟩
  · have hnok : ¬ OkB l := fun h => by
      obtain ⟨b1, b2, b3, b4, b5, b6, b7, b8, b9, ba⟩ := ok_bounds hmem h
      apply hgo
      refine ⟨Nat.lt_of_le_of_lt b5 (by decide), Nat.lt_of_le_of_lt b6 (by decide), fun hh => hq ⟨b1, b2, b3, b4, hh.1, hh.2, b7, b8, b9, ba⟩, b1, b2, b3⟩
    refine (huge_no (some ⟨pb, poff, none⟩) cap l.length w (getV l 0 8 true) (getV l 8 4 true) (getV l 16 8 true) (getV l 24 8 true) (Nat.le_trans (by decide) h48) hl2 hgo).mono ?_
    rintro e w' ⟨rfl, hb⟩
    exact ⟨fun h => absurd h hnok, fun _ => rfl, hb⟩
/-- The document's own DecodeBatch, of any bytes. -/
theorem rdb_any (a : Option Addr) (cap : Nat) (l : List Nat) (w : World) (ht : Tab w) (hr : Row w a l) (hl : l.length ≤ cap) (hc : cap ≤ maxLen) (hl2 : l.length ≤ 8000) :
    Calls Tryd.prog 19 #[.slice a l.length cap] w fun e w' => DecP l w e w' := by
  by_cases h48 : l.length < 48
  · refine (rdb_short a cap l.length w h48).mono ?_
    rintro e w' ⟨rfl, hb⟩
    exact ⟨fun h => absurd h.l48 (Nat.not_le.2 h48), fun _ => rfl, hb⟩
  · have h48' : 48 ≤ l.length := Nat.not_lt.1 h48
    obtain ⟨pb, poff, rfl, _, _⟩ := hr 0 (Nat.lt_of_lt_of_le (by decide) h48')
    by_cases hq : Ql l
    · exact rdb_ql pb poff cap l w ht hr hl hc hl2 h48' hq
    · have hqq : ¬ (36 ≤ getV l 8 4 true ∧ getV l 8 4 true ≤ l.length - 12 ∧ getV l 8 4 true ≤ 6000 ∧ getV l 0 8 true ≤ 1125899906842624 ∧ getV l 16 8 true ≤ 4611686018427387904 ∧ getV l 24 8 true ≤ 4611686018427387904 ∧ getV l 32 4 true ≤ 100 ∧ 1 ≤ getV l 36 4 true ∧ getV l 36 4 true ≤ 100 ∧ getV l 40 8 true ≤ 1125899906842624) := fun ⟨q1, q2, q3, q4, q5, q6, q7, q8, q9, qa⟩ => hq ⟨q1, q2, q3, q4, q5, q6, q7, q8, q9, qa⟩
      by_cases hok : OkB l
      · refine (rdb_ref pb poff cap l w hr hl2 h48' ht (getV l 0 8 true) (getV l 8 4 true) (getV l 16 8 true) (getV l 24 8 true) (getV l 32 4 true) (getV l 36 4 true) (getV l 40 8 true) (bOf l).base (bOf l).span (bOf l).prod (bOf l).seq ((lenN l : Nat) : Int) 0 (bOf l).rs (fun a' c' => a' = none → c' = 0)
        (fun y hy => rget_yes (some ⟨pb, poff, none⟩) cap l 0 8 true y hy (Nat.le_trans hl2 (by decide)) (by decide) (by decide) (Nat.le_trans (by decide) h48'))
        (fun y hy => rget_yes (some ⟨pb, poff, none⟩) cap l 8 4 true y hy (Nat.le_trans hl2 (by decide)) (by decide) (by decide) (Nat.le_trans (by decide) h48'))
        (fun y hy => rget_yes (some ⟨pb, poff, none⟩) cap l 16 8 true y hy (Nat.le_trans hl2 (by decide)) (by decide) (by decide) (Nat.le_trans (by decide) h48'))
        (fun y hy => rget_yes (some ⟨pb, poff, none⟩) cap l 24 8 true y hy (Nat.le_trans hl2 (by decide)) (by decide) (by decide) (Nat.le_trans (by decide) h48'))
        (fun y hy => rget_yes (some ⟨pb, poff, none⟩) cap l 32 4 true y hy (Nat.le_trans hl2 (by decide)) (by decide) (by decide) (Nat.le_trans (by decide) h48'))
        (fun y hy => rget_yes (some ⟨pb, poff, none⟩) cap l 36 4 true y hy (Nat.le_trans hl2 (by decide)) (by decide) (by decide) (Nat.le_trans (by decide) h48'))
        (fun y hy => rget_yes (some ⟨pb, poff, none⟩) cap l 40 8 true y hy (Nat.le_trans hl2 (by decide)) (by decide) (by decide) (Nat.le_trans (by decide) h48'))
        (fun y ty hy => ?_) hqq).mono ?_
        · refine (huge_any pb poff cap l y ty hy hl hc hl2 h48' hq).mono ?_
          rintro e w' ⟨h1, _, hb⟩
          obtain ⟨a', c', rfl, h2, h3⟩ := h1 hok
          exact ⟨a', c', rfl, h2, h3, hb⟩
        · rintro e w' ⟨a', c', rfl, h2, h3, hb⟩
          exact ⟨fun _ => ⟨a', c', rfl, h2, h3⟩, fun h => absurd hok h, hb⟩
      · refine (rdb_ref pb poff cap l w hr hl2 h48' ht (getV l 0 8 true) (getV l 8 4 true) (getV l 16 8 true) (getV l 24 8 true) (getV l 32 4 true) (getV l 36 4 true) (getV l 40 8 true) 0 0 0 0 0 10 [] (fun a' c' => a' = none ∧ c' = 0)
        (fun y hy => rget_yes (some ⟨pb, poff, none⟩) cap l 0 8 true y hy (Nat.le_trans hl2 (by decide)) (by decide) (by decide) (Nat.le_trans (by decide) h48'))
        (fun y hy => rget_yes (some ⟨pb, poff, none⟩) cap l 8 4 true y hy (Nat.le_trans hl2 (by decide)) (by decide) (by decide) (Nat.le_trans (by decide) h48'))
        (fun y hy => rget_yes (some ⟨pb, poff, none⟩) cap l 16 8 true y hy (Nat.le_trans hl2 (by decide)) (by decide) (by decide) (Nat.le_trans (by decide) h48'))
        (fun y hy => rget_yes (some ⟨pb, poff, none⟩) cap l 24 8 true y hy (Nat.le_trans hl2 (by decide)) (by decide) (by decide) (Nat.le_trans (by decide) h48'))
        (fun y hy => rget_yes (some ⟨pb, poff, none⟩) cap l 32 4 true y hy (Nat.le_trans hl2 (by decide)) (by decide) (by decide) (Nat.le_trans (by decide) h48'))
        (fun y hy => rget_yes (some ⟨pb, poff, none⟩) cap l 36 4 true y hy (Nat.le_trans hl2 (by decide)) (by decide) (by decide) (Nat.le_trans (by decide) h48'))
        (fun y hy => rget_yes (some ⟨pb, poff, none⟩) cap l 40 8 true y hy (Nat.le_trans hl2 (by decide)) (by decide) (by decide) (Nat.le_trans (by decide) h48'))
        (fun y ty hy => ?_) hqq).mono ?_
        · refine (huge_any pb poff cap l y ty hy hl hc hl2 h48' hq).mono ?_
          rintro e w' ⟨_, h1, hb⟩
          exact ⟨none, 0, h1 hok, RRow.nil _ _, ⟨rfl, rfl⟩, hb⟩
        · rintro e w' ⟨a', c', rfl, _, ⟨rfl, rfl⟩, hb⟩
          exact ⟨fun h => absurd h hok, fun _ => rfl, hb⟩
end Go.Proofs.YtgpeldmplkijlaaDoor
