/- The walk of LayoutCuts: true for every argument. -/
import Derived.Test.YtbiniohacnaieaaDoorWb
namespace Go.Proofs.YtbiniohacnaieaaDoor
set_option linter.unusedSimpArgs false
set_option linter.unusedVariables false
open Go.RowKit
theorem app_hundred (W : World) (b : Nat) (olds : List Nat) (ho : olds.length = 512) (hb : ∀ i, olds.getD i 0 < 256) (hc : ∀ j u, (cv olds)[j]? = some u → W.cell? ((⟨b, 0, none⟩ : Addr).add j) = some u) :
    ∃ cap g W', (Builtin.append_ #[31, 3] 31 #[.slice (some ⟨b, 0, none⟩) 512 512, .int .i64 100]).run Tryd.prog W = .ok (.slice (some ⟨g, 0, none⟩) 612 cap) W' ∧ 612 ≤ cap ∧ cap ≤ maxLen ∧
      Row W' (some ⟨g, 0, none⟩) (olds ++ List.replicate 100 0) ∧ W.heap.size ≤ g ∧ g < W'.heap.size ∧ Below W.heap.size W W' := by
  obtain ⟨i0, hi, hz0, hz1, hz2⟩ := info_parts Tryd.info5
  have hfo := run_firstCells_some (P := Tryd.prog) W.drew 1 512 ⟨b, 0, none⟩ 512 512 (cv olds) (by rw [cv_length, ho]) (by simpa using hc)
  have hw : IntKind.i64.wrap 100 = 100 := by decide
  have h48 : ¬ (281474976710656 < Builtin.nextslicecap 612 512) := by decide
  obtain ⟨o, HO⟩ : ∃ o : Obj, o = .cells ((cv olds).toArray ++ Builtin.zeroCells (Value.int .u8 0).cells 100 ++ Builtin.zeroCells (Value.int .u8 0).cells (grownCap W 612 512 5 - 612)) 5 := ⟨_, rfl⟩
  refine ⟨grownCap W 612 512 5, W.heap.size, W.drew.alloc o, ?_, grownCap_ge _ _ _ _, grownCap_le_maxLen _ _ _ _ (by decide), ?_, Nat.le_refl _, by simp, ?_⟩
  · simp [Builtin.append_, run_underlying Tryd.underlying31, run_underlying Tryd.underlying3, sizeOf, typeInfo, zeroValue, hi, hz0, hz1, hz2, asInt, asIntOf, hw, h48, hfo, Question.forced, newRow]
    rw [HO]
    simp [grownCap]
    exact fun c => absurd c (by decide)
  · have e1 : (W.drew.alloc o).heap[W.heap.size]? = some (.cells (cv (olds ++ List.replicate 100 0) ++ cv (List.replicate (grownCap W 612 512 5 - 612) 0)).toArray 5 (0, 0)) := by
      rw [HO, zeroCells_u8, zeroCells_u8]
      rw [show (W.drew.alloc (.cells ((cv olds).toArray ++ (cv (List.replicate 100 0)).toArray ++ (cv (List.replicate (grownCap W 612 512 5 - 612) 0)).toArray) 5)).heap[W.heap.size]? = some (.cells ((cv olds).toArray ++ (cv (List.replicate 100 0)).toArray ++ (cv (List.replicate (grownCap W 612 512 5 - 612) 0)).toArray) 5) from heap_alloc_new W.drew _]
      rw [cv_append, List.append_toArray, List.append_toArray]
    intro i hi
    refine ⟨W.heap.size, 0, rfl, ?_, ?_⟩
    · rw [cell_of_row _ W.heap.size (0 + i) _ 5 (0, 0) e1]
      have := cv_get (olds ++ List.replicate 100 0) i hi
      rw [Nat.zero_add, List.getElem?_toArray, List.getElem?_append_left (by rw [cv_length]; exact hi)]
      exact this
    · rw [getD_app2]
      split
      · exact hb i
      · rw [getD_rep]; omega
  · exact ((Below.refl _ _).drew).alloc (Nat.le_refl _) _
set_option maxRecDepth 100000 in
set_option maxHeartbeats 1000000 in
theorem cuts_in (a0 a1 : Int) (n : Nat) (hn : n ≤ 600) (w : World) (ht : Tab w) (hh : Hol w) (p q : Pl) (f : Int) (E : List Nat) (hEl : E.length = 512) (HB : Hid (∀ i, E.getD i 0 < 256))
    (hq : (n = 512 ∧ f = 0 ∧ q = p) ∨ (n ≠ 512 ∧ f = 10))
    (KM : Hid (∀ w', Hol w' → Calls Tryd.prog 9 #[.int .i64 a0, .int .i64 a1] w' fun e w2 => e = .returned (.tuple #[p.v, .int .i64 0]) ∧ Below w'.heap.size w' w2))
    (KE : Hid (∀ w', Tab w' → Calls Tryd.prog 15 #[p.v] w' fun e w2 => (∃ g, e = .returned (.slice (some ⟨g, 0, none⟩) 512 512) ∧ Own w'.heap.size w2 g 512 E) ∧ Below w'.heap.size w' w2))
    (KD : Hid (∀ g cap w', Tab w' → Hol w' → Row w' (some ⟨g, 0, none⟩) ((E ++ List.replicate 100 0).take n) → Calls Tryd.prog 12 #[.slice (some ⟨g, 0, none⟩) n cap] w' fun e w2 => e = .returned (.tuple #[q.v, .int .i64 f]) ∧ Below w'.heap.size w' w2)) :
    Calls Tryd.prog 8 #[.int .i64 a0, .int .i64 a1, .int .i64 (n : Int)] w fun e w' => e = .returned (.bool true) ∧ Below w.heap.size w w' := by
  obtain ⟨p1, p2, p3, p4, p5, p6, p7⟩ := p
  simp only [Pl.v] at KM KE
  have HEl : Hid (E.length = 512) := hEl
  clear hEl
  have n1 : ¬ (n : Int) < 0 := by omega
  have n2 : ¬ 600 < (n : Int) := by omega
  have n3 : ¬ 612 < (n : Int) := by omega
  have n4 : (0 : Int) ≤ (n : Int) := by omega
  have e1 := eqI p1
  have e2 := eqI p2
  have e3 := eqI p3
  have e4 := eqI p4
  have e5 := eqI p5
  have e6 := eqI p6
  have e7 := eqI p7
  have hz : ∀ i, (E ++ List.replicate 100 0).getD i 0 < 256 := by
    intro i
    rw [getD_app2]
    split
    · exact HB.out i
    · rw [getD_rep]; omega
  rcases hq with ⟨hn5, rfl, rfl⟩ | ⟨hn5, rfl⟩
  · have hn6 : ((n : Int) == 512) = true := by rw [beq_iff_eq]; omega
    clear hn5
    go_enter Tryd.func8, Tryd.ntmps8
    go_wp2_with (first
      | (go_at_call 9; refine (KM.out _ hh).mono ?_; rintro e v1 ⟨rfl, hb1⟩; have hs1 := hb1.size; have h1 := hh.below hb1; have t1 := ht.below hb1)
      | (go_at_call 15; refine (KE.out _ (t1.alloc _)).mono ?_; rintro e v2 ⟨⟨g, rfl, hown⟩, hb2⟩; have hB := (box_new v1 ⟨p1, p2, p3, p4, p5, p6, p7⟩).below hb2; have hb3 : Below w.heap.size w v2 := (hb1.alloc hs1 _).trans (hb2.mono (by simp; omega)); obtain ⟨cap, g', v3, hap, hcap, hcm, hrow, _, _, hb4⟩ := app_hundred v2 g E HEl.out HB.out (row_news (hown.row HB.out)); have hcI : (n : Int) ≤ (cap : Int) := (by omega); have hB3 := hB.below hb4; have HB3 : Hid (Below w.heap.size w v3) := hb3.trans (hb4.mono hb3.size); have HBX : Hid (BoxAt v3 v1.heap.size _) := hB3; clear hb2 hb1 h1 t1 hown hB hb4 hb3 hB3)
      | (at_builtin; have _t := hap; refine Lib.wpList_append_run _ rfl _ _ _ _ rfl _ _ rfl rfl _ _ hap ?_; clear hap _t)
      | (go_at_call 12; refine (KD.out _ _ _ (ht.below HB3.out) (hh.below HB3.out) (by have := hrow; rw [← List.take_append_drop n (E ++ List.replicate 100 0)] at this; exact row_front this)).mono ?_; rintro e v4 ⟨rfl, hb5⟩; obtain ⟨c0, c1, c2, c3, c4, c5, c6⟩ := HBX.out.below hb5; have hb6 := HB3.out.trans (hb5.mono HB3.out.size); have hlt4 : v1.heap.size < v4.heap.size := Nat.lt_of_lt_of_le HBX.out.lt hb5.size; have hne4 : ¬ v4.heap.size = v1.heap.size := (by omega); clear hb5; simp only [Pl.v])
      | (go_at_call 11; refine (awake_any _ ((hh.below hb6).alloc _)).mono ?_; rintro e v6 ⟨rfl, hb9⟩; have hb10 : Below w.heap.size w v6 := (hb6.alloc hb6.size _).trans (hb9.mono (by simp; have := hb6.size; omega)); clear hb9))
    go_ret
    exact ⟨rfl, hb10⟩
  · have hn6 : ((n : Int) == 512) = false := by rw [beq_eq_false_iff_ne]; omega
    clear hn5
    obtain ⟨q1, q2, q3, q4, q5, q6, q7⟩ := q
    go_enter Tryd.func8, Tryd.ntmps8
    go_wp2_with (first
      | (go_at_call 9; refine (KM.out _ hh).mono ?_; rintro e v1 ⟨rfl, hb1⟩; have hs1 := hb1.size; have h1 := hh.below hb1; have t1 := ht.below hb1)
      | (go_at_call 15; refine (KE.out _ (t1.alloc _)).mono ?_; rintro e v2 ⟨⟨g, rfl, hown⟩, hb2⟩; have hB := (box_new v1 ⟨p1, p2, p3, p4, p5, p6, p7⟩).below hb2; have hb3 : Below w.heap.size w v2 := (hb1.alloc hs1 _).trans (hb2.mono (by simp; omega)); obtain ⟨cap, g', v3, hap, hcap, hcm, hrow, _, _, hb4⟩ := app_hundred v2 g E HEl.out HB.out (row_news (hown.row HB.out)); have hcI : (n : Int) ≤ (cap : Int) := (by omega); have hB3 := hB.below hb4; have HB3 : Hid (Below w.heap.size w v3) := hb3.trans (hb4.mono hb3.size); have HBX : Hid (BoxAt v3 v1.heap.size _) := hB3; clear hb2 hb1 h1 t1 hown hB hb4 hb3 hB3)
      | (at_builtin; have _t := hap; refine Lib.wpList_append_run _ rfl _ _ _ _ rfl _ _ rfl rfl _ _ hap ?_; clear hap _t)
      | (go_at_call 12; refine (KD.out _ _ _ (ht.below HB3.out) (hh.below HB3.out) (by have := hrow; rw [← List.take_append_drop n (E ++ List.replicate 100 0)] at this; exact row_front this)).mono ?_; rintro e v4 ⟨rfl, hb5⟩; obtain ⟨c0, c1, c2, c3, c4, c5, c6⟩ := HBX.out.below hb5; have hb6 := HB3.out.trans (hb5.mono HB3.out.size); have hlt4 : v1.heap.size < v4.heap.size := Nat.lt_of_lt_of_le HBX.out.lt hb5.size; have hne4 : ¬ v4.heap.size = v1.heap.size := (by omega); clear hb5; simp only [Pl.v])
      | (go_at_call 11; refine (awake_any _ ((hh.below hb6).alloc _)).mono ?_; rintro e v6 ⟨rfl, hb9⟩; have hb10 : Below w.heap.size w v6 := (hb6.alloc hb6.size _).trans (hb9.mono (by simp; have := hb6.size; omega)); clear hb9))
    go_ret
    exact ⟨rfl, hb10⟩
set_option maxRecDepth 100000 in
theorem layoutCuts_walk (a0 : Int) (a1 : Int) (a2 : Int) (w : World) (ht : Tab w) (hh : Hol w) (w0 : (Lit.int .i64 a0).wf = true) (w1 : (Lit.int .i64 a1).wf = true) (w2 : (Lit.int .i64 a2).wf = true) :
    Calls Tryd.prog 8 #[.int .i64 a0, .int .i64 a1, .int .i64 a2] w fun e w' => e = .returned (.bool true) ∧ Below w.heap.size w w' := by
  clear w0 w1 w2
  by_cases h1 : a2 < 0
  · go_enter Tryd.func8, Tryd.ntmps8
    go_wp2_with (go_at_call 11; refine (awake_any _ hh).mono ?_; rintro x v4 ⟨rfl, hb6⟩)
    go_ret
    exact ⟨rfl, hb6⟩
  by_cases h2 : 600 < a2
  · go_enter Tryd.func8, Tryd.ntmps8
    go_wp2_with (go_at_call 11; refine (awake_any _ hh).mono ?_; rintro x v4 ⟨rfl, hb6⟩)
    go_ret
    exact ⟨rfl, hb6⟩
  obtain ⟨n, rfl⟩ := Int.eq_ofNat_of_zero_le (show 0 ≤ a2 by omega)
  have K1 := make_any a0 a1
  by_cases hc : mkE a0 a1 = 0
  · have hde := dec_enc a0 a1 hc
    rw [hc] at K1
    have hlen : ((encL (nums (mkP a0 a1)) ++ List.replicate 100 0).take n).length = n := by simp [encL_len]; omega
    by_cases hn : n = 512
    · refine cuts_in a0 a1 n (by omega) w ht hh (mkP a0 a1) (mkP a0 a1) 0 (encL (nums (mkP a0 a1))) (encL_len _) (encL_lt _) (.inl ⟨hn, rfl, rfl⟩) K1 (encode_any _) (fun g cap w' h1 h2 h3 => ?_)
      have htk : (encL (nums (mkP a0 a1)) ++ List.replicate 100 0).take n = encL (nums (mkP a0 a1)) := by
        rw [hn, show 512 = (encL (nums (mkP a0 a1))).length from (encL_len _).symm, List.take_left]
      rw [htk] at h3
      have := decode_any (some ⟨g, 0, none⟩) cap (encL (nums (mkP a0 a1))) w' h1 h2 h3 (by rw [encL_len]; decide)
      unfold decP decE at this
      rw [if_pos hde.1, if_pos hde.1, hde.2, encL_len, ← hn] at this
      exact this
    · refine cuts_in a0 a1 n (by omega) w ht hh (mkP a0 a1) z7 10 (encL (nums (mkP a0 a1))) (encL_len _) (encL_lt _) (.inr ⟨hn, rfl⟩) K1 (encode_any _) (fun g cap w' h1 h2 h3 => ?_)
      have hng : ¬ decG ((encL (nums (mkP a0 a1)) ++ List.replicate 100 0).take n) := fun c => hn (by have := dec_len _ c; omega)
      have := decode_any (some ⟨g, 0, none⟩) cap _ w' h1 h2 h3 (by rw [hlen]; unfold maxLen; omega)
      unfold decP decE at this
      rw [if_neg hng, if_neg hng, hlen] at this
      exact this
  · have hcc : ((mkE a0 a1) != 0) = true := by rw [bne_iff_ne]; exact hc
    generalize mkE a0 a1 = c at *
    generalize mkP a0 a1 = p at *
    obtain ⟨p1, p2, p3, p4, p5, p6, p7⟩ := p
    have HK1 : Hid (∀ w', Hol w' → _) := K1
    clear K1 hc
    go_enter Tryd.func8, Tryd.ntmps8
    go_wp2_with (first
      | (go_at_call 9; refine (Calls.mono (HK1.out _ hh) ?_); rintro e v1 ⟨rfl, hb1⟩; have h1 := hh.below hb1; have hs1 := hb1.size; simp only [Pl.v])
      | (go_at_call 11; refine (awake_any _ (h1.alloc _)).mono ?_; rintro e v3 ⟨rfl, hb4⟩; have hb5 : Below w.heap.size w v3 := (hb1.alloc hs1 _).trans (hb4.mono (by simp; omega)); clear hb4))
    go_ret
    exact ⟨rfl, hb5⟩
end Go.Proofs.YtbiniohacnaieaaDoor
