/- The document's own EncodeBatch. -/
import Derived.Test.YtgpeldmplkijlaaDoorRx
import Derived.Test.YtgpeldmplkijlaaDoorBe
namespace Go.Proofs.YtgpeldmplkijlaaDoor
set_option linter.unusedSimpArgs false
set_option linter.unusedVariables false
open Go.RowKit
set_option maxHeartbeats 1600000 in
set_option maxRecDepth 100000 in
theorem rencodeB_any (b : Ba) (a : Option Addr) (cap : Nat) (hi : In64B b) (hl : b.rs.length ≤ maxLen) : BEnc 14 b a cap := fun w ht hr => by
  have HK : Hid (∀ x, RRow x a b.rs → Calls Tryd.prog 17 #[bav b a cap] x fun e w' => e = .returned (.int .i64 (chkB b)) ∧ Below x.heap.size x w') := fun x hx => rcheckB_any b a cap x hx hi hl
  have HR0 : Hid (RRow w a b.rs) := hr
  by_cases h : chkB b = 0
  · obtain ⟨hw, h6⟩ := chk_parts h
    have hR : encBR b = encBL b := by unfold encBR; rw [if_pos h]
    rw [h] at HK
    rw [h, hR]
    obtain ⟨b0, b1⟩ := (wr_ok hw).1
    obtain ⟨bn, ebn⟩ := Int.eq_ofNat_of_zero_le b0
    have HB : Hid (∀ x, RRow x a b.rs → Calls Tryd.prog 33 #[bav b a cap] x fun e w' => ∃ v, e = .returned v ∧ w'.ownsRow x.heap.size 5 1 v (tailL b).length (cv (tailL b)) ∧ Below x.heap.size x w') := fun x hx => rbody_any b a cap x hx hi hw
    have HTB : Hid (∀ i, (tailL b).getD i 0 < 256) := lt_mem (fun x hx => encB_mem hw x (by unfold encBL; exact List.mem_append_right _ hx))
    have hTL : (tailL b).length ≤ 6000 := by have := tail_len b; omega
    have hsl := sum_lt (tailL b) (mem_lt HTB.out)
    have hE : encBL b = (([] ++ lay 8 bn) ++ lay 4 ((tailL b).length + 4)) ++ lay 4 (P.sum (tailL b)) ++ tailL b := by
      unfold encBL headL
      rw [ebn]
      simp
    rw [hE]
    generalize tailL b = TL at *
    have HSU : Hid (∀ x a k, Row x a TL → Calls Tryd.prog 35 #[.slice a TL.length k] x fun e w' => e = .returned (.int .u32 ((P.sum TL : Nat) : Int)) ∧ w' = x) := fun x a k hr => rsum_any a k TL x hr (by unfold maxLen; omega)
    generalize P.sum TL = sn at *
    clear hE hR h hw h6 b0
    obtain ⟨base, span, prod, seq, rs⟩ := b
    simp only [bav] at *
    subst ebn
    have HX1 : Hid _ := fun v x u l hl h1 h2 => lay_any v l 8 bn x u u.heap.size h1 h2 (Nat.le_refl _) hl (by omega) (by omega)
    have HX2 : Hid _ := fun v x u l hl h1 h2 => lay_any v l 4 (TL.length + 4) x u u.heap.size h1 h2 (Nat.le_refl _) hl (by omega) (by omega)
    have HX3 : Hid _ := fun v x u l hl h1 h2 => lay_any v l 4 sn x u u.heap.size h1 h2 (Nat.le_refl _) hl (by omega) (by omega)
    have HL1 : Hid (([] ++ lay 8 bn).length ≤ 1000) := by show _ ≤ _; simp [lay_len]
    have HL2 : Hid ((([] ++ lay 8 bn) ++ lay 4 (TL.length + 4)).length ≤ 1000) := by show _ ≤ _; simp [lay_len]
    have HL3 : Hid (((([] ++ lay 8 bn) ++ lay 4 (TL.length + 4)) ++ lay 4 sn).length ≤ 1000) := by show _ ≤ _; simp [lay_len]
    generalize lay 8 bn = l1 at *
    generalize lay 4 (TL.length + 4) = l2 at *
    generalize lay 4 sn = l3 at *
    have hw1 : IntKind.u64.wrap (bn : Int) = (bn : Int) := by rw [IntKind.wrap_u64]; omega
    have hw2 : IntKind.i64.wrap ((TL.length : Int) + 4) = ((TL.length + 4 : Nat) : Int) := by rw [IntKind.wrap_i64]; omega
    have hw3 : IntKind.u64.wrap ((TL.length + 4 : Nat) : Int) = ((TL.length + 4 : Nat) : Int) := by rw [IntKind.wrap_u64]; omega
    have hw4 : IntKind.u64.wrap (sn : Int) = (sn : Int) := by rw [IntKind.wrap_u64]; omega
    obtain ⟨tn, HTN⟩ : ∃ tn, Hid (TL.length + 4 = tn) := ⟨_, rfl⟩
    rw [HTN.out] at HX2 hw2 hw3
    clear hr ht b1
    have tok1 : True := trivial
    go_enter Tryd.func14, Tryd.ntmps14
    go_wp2_with (first
      | (go_at_call 17; refine (HK.out _ (RRow.below HR0.out (below_box _))).mono ?_; rintro e w1 ⟨rfl, hb1⟩; have HB1 : Hid (BxS w (bcells ⟨(bn : Int), span, prod, seq, rs⟩ a cap) w1) := BxS.below (BxS.new w _) hb1; have HRR : Hid (RRow w1 a rs) := RRow.below (RRow.below HR0.out (below_box _)) hb1; obtain ⟨c0, c1, c2, c3, c4, cz⟩ := BxS.cells HB1.out; simp only at c0 c1 c2 c3 c4; clear hb1)
      | (go_at_call 33; refine (HB.out _ HRR.out).mono ?_; rintro e w2 ⟨v2, rfl, hown2, hb2⟩; obtain ⟨a2, k2, rfl, hr2, hn2⟩ := owns_sl hown2 HTB.out; have HB2 : Hid (BxS w (bcells ⟨(bn : Int), span, prod, seq, rs⟩ a cap) w2) := BxS.below HB1.out hb2; clear c0 c1 c2 c3 c4 cz hown2 hb2 HRR; obtain ⟨c0, c1, c2, c3, c4, cz⟩ := BxS.cells HB2.out; simp only at c0 c1 c2 c3 c4; have HRW : Hid (Row w2 a2 TL) := hr2; clear hr2)
      | (go_at_call 34; have _t := tok1; refine (HX1.out _ _ w2 [] (by simp) (World.ownsRow_nil _ _ _ _) (Below.refl _ _)).mono ?_; clear tok1 _t; rintro e x1 ⟨v1, rfl, hown1, hb1⟩)
      | (go_at_call 34; have _t := hown1; refine (HX2.out _ _ w2 ([] ++ l1) HL1.out hown1 hb1).mono ?_; clear hown1 _t; rintro e x2 ⟨v3, rfl, hown2, hb2⟩; have hr2 := Row.below HRW.out hb2)
      | (go_at_call 35; refine (HSU.out _ _ _ hr2).mono ?_; rintro e x3 ⟨rfl, hw⟩; subst x3)
      | (go_at_call 34; have _t := hown2; refine (HX3.out _ _ w2 (([] ++ l1) ++ l2) HL2.out hown2 hb2).mono ?_; clear hown2 _t hr2; rintro e x4 ⟨v4, rfl, hown4, hb4⟩; have hr4 := Row.below HRW.out hb4)
      | (at_builtin; refine wpList_append_row (by rfl) _ _ rfl w2.heap.size w2 _ _ _ rfl hown4 hb4 hb4.size a2 k2 TL rfl hr4 hn2 (by have := HL3.out; omega) ?_; intro v5 w5 hown5 hbel5))
    go_ret2
    refine ⟨v5, rfl, ?_, HB2.out.bel.trans (hbel5.mono HB2.out.bel.size)⟩
    rw [List.length_append, cv_append]
    exact owns_le hown5 HB2.out.bel.size
  · have hR : encBR b = [] := by unfold encBR; rw [if_neg h]
    have hne : (chkB b != 0) = true := by rw [bne_iff_ne]; exact h
    rw [hR]
    generalize chkB b = c at *
    obtain ⟨base, span, prod, seq, rs⟩ := b
    simp only [bav] at *
    clear h hr ht
    go_enter Tryd.func14, Tryd.ntmps14
    go_wp2_with (go_at_call 17; refine (HK.out _ (RRow.below HR0.out (below_box _))).mono ?_; rintro e w1 ⟨rfl, hb1⟩; have HB1 : Hid (Below w.heap.size w w1) := (below_box _).trans (hb1.mono (by simp)))
    go_ret2
    exact ⟨_, rfl, World.ownsRow_nil _ _ _ _, HB1.out⟩
end Go.Proofs.YtgpeldmplkijlaaDoor
