/- The walk of LayoutBack: true for every argument. -/
import Derived.Test.YtbiniohacnaieaaDoorDe
namespace Go.Proofs.YtbiniohacnaieaaDoor
set_option linter.unusedSimpArgs false
set_option linter.unusedVariables false
open Go.RowKit
theorem Tab.alloc {w : World} (h : Tab w) (o : Obj) : Tab (w.alloc o) := h.below ((Below.refl _ _).alloc (Nat.le_refl _) _)
theorem mkP_bad (n i : Int) (h : ¬ mkE n i = 0) : mkP n i = z7 := by unfold mkP; rw [if_neg h]
set_option maxRecDepth 100000 in
set_option maxHeartbeats 1000000 in
theorem back_in (a0 a1 a2 a3 : Int) (w : World) (ht : Tab w) (hh : Hol w) (p : Pl) (E E' : List Nat) (j d : Nat) (hj : j < 512) (hd : 1 ≤ d) (hd2 : d ≤ 255) (hEl : E.length = 512) (HB : Hid (∀ i, E.getD i 0 < 256)) (HB' : Hid (∀ i, E'.getD i 0 < 256)) (HE' : Hid (E' = E.set j (E.getD j 0 ^^^ d)))
    (KM : Hid (∀ w', Hol w' → Calls Tryd.prog 9 #[.int .i64 a0, .int .i64 a1] w' fun e w2 => e = .returned (.tuple #[p.v, .int .i64 0]) ∧ Below w'.heap.size w' w2))
    (KE : Hid (∀ w', Tab w' → Calls Tryd.prog 15 #[p.v] w' fun e w2 => (∃ g, e = .returned (.slice (some ⟨g, 0, none⟩) 512 512) ∧ Own w'.heap.size w2 g 512 E) ∧ Below w'.heap.size w' w2))
    (KD : Hid (∀ g w', Tab w' → Hol w' → Row w' (some ⟨g, 0, none⟩) E → Calls Tryd.prog 12 #[.slice (some ⟨g, 0, none⟩) 512 512] w' fun e w2 => e = .returned (.tuple #[p.v, .int .i64 0]) ∧ Below w'.heap.size w' w2))
    (KF : Hid (∀ g w', Tab w' → Hol w' → Row w' (some ⟨g, 0, none⟩) E' → Calls Tryd.prog 12 #[.slice (some ⟨g, 0, none⟩) 512 512] w' fun e w2 => e = .returned (.tuple #[z7.v, .int .i64 10]) ∧ Below w'.heap.size w' w2))
    (R1 : Hid (∀ w', Calls Tryd.prog 17 #[.int .i64 a2, .int .i64 512] w' fun e w2 => e = .returned (.int .i64 (j : Int)) ∧ w2 = w'))
    (R2 : Hid (∀ w', Calls Tryd.prog 17 #[.int .i64 a3, .int .i64 255] w' fun e w2 => e = .returned (.int .i64 ((d - 1 : Nat) : Int)) ∧ w2 = w')) :
    Calls Tryd.prog 5 #[.int .i64 a0, .int .i64 a1, .int .i64 a2, .int .i64 a3] w fun e w' => e = .returned (.bool true) ∧ Below w.heap.size w w' := by
  obtain ⟨p1, p2, p3, p4, p5, p6, p7⟩ := p
  simp only [Pl.v] at KM KE KD KF
  have e1 := eqI p1
  have e2 := eqI p2
  have e3 := eqI p3
  have e4 := eqI p4
  have e5 := eqI p5
  have e6 := eqI p6
  have e7 := eqI p7
  have HEl : Hid (E.length = 512) := hEl
  clear hEl
  go_enter Tryd.func5, Tryd.ntmps5
  go_wp2_with (first
    | (go_at_call 9; refine (KM.out _ hh).mono ?_; rintro e v1 ⟨rfl, hb1⟩; have hs1 := hb1.size; have h1 := hh.below hb1; have t1 := ht.below hb1)
    | (go_at_call 15; refine (KE.out _ (t1.alloc _)).mono ?_; rintro e v2 ⟨⟨g, rfl, hown⟩, hb2⟩; have hB := (box_new v1 ⟨p1, p2, p3, p4, p5, p6, p7⟩).below hb2; have h2 := (h1.alloc _).below hb2; have t2 := (t1.alloc _).below hb2; have hb3 : Below w.heap.size w v2 := (hb1.alloc hs1 _).trans (hb2.mono (by simp; omega)); have hgg : w.heap.size < g := (Nat.lt_of_lt_of_le (by simp; omega) hown.ge.1); have hlt1 := hB.lt; clear hb2 hb1 h1 t1)
    | (go_at_call 12; refine (KD.out _ _ t2 h2 (hown.row HB.out)).mono ?_; rintro e v3 ⟨rfl, hb4⟩; have hB3 := hB.below hb4; obtain ⟨c0, c1, c2, c3, c4, c5, c6⟩ := hB3; have h3 := (h2.below hb4).alloc (.cells (pv ⟨p1, p2, p3, p4, p5, p6, p7⟩) 23); have t3 := (t2.below hb4).alloc (.cells (pv ⟨p1, p2, p3, p4, p5, p6, p7⟩) 23); have hb5 : Below w.heap.size w v3 := hb3.trans (hb4.mono hb3.size); have hown3 := (hown.below hb4); have hlt3 : v1.heap.size < v3.heap.size := Nat.lt_of_lt_of_le hlt1 hb4.size; have hne3 : ¬ v3.heap.size = v1.heap.size := (by omega); clear hb4 hB h2 t2))
  have hown4 := (hown3.below ((Below.refl _ _).alloc (Nat.le_refl _) (.cells (pv ⟨p1, p2, p3, p4, p5, p6, p7⟩) 23))).drewN 1
  have hcell := hown4.cell j (by rw [HEl.out]; exact hj)
  have hfree := hown4.free j
  have hown5 := hown4.store j (E.getD j 0 ^^^ d)
  rw [← HE'.out] at hown5
  have hc256 : E.getD j 0 < 256 := HB.out j
  have hb6 : Below w.heap.size w (((v3.alloc (.cells (pv ⟨p1, p2, p3, p4, p5, p6, p7⟩) 23)).drewN 1).setCell ⟨g, j, none⟩ (.int .u8 ((E.getD j 0 ^^^ d : Nat) : Int))) := ((hb5.alloc hb5.size _).drew).setCell (by show w.heap.size ≤ g; omega) _
  have HL : Hid (Own _ _ g 512 E') := hown5
  have HB6 : Hid (Below w.heap.size w _) := hb6
  clear hown3 hown4 hown5 hb6 hown
  generalize E.getD j 0 = c at *
  obtain ⟨D, hD⟩ : ∃ D, D = d - 1 := ⟨_, rfl⟩
  rw [← hD] at R2
  have y1 : IntKind.i64.wrap ((D : Int) + 1) = (d : Int) := by rw [IntKind.wrap_i64]; omega
  have y2 : IntKind.u8.wrap (d : Int) = (d : Int) := by rw [IntKind.wrap_u8]; omega
  have y3 : bits .xor .u8 (c : Int) (d : Int) = ((c ^^^ d : Nat) : Int) := u8_xor_nat c d hc256 (by omega)
  clear hD
  have hj0 : (0 : Int) ≤ (j : Int) := by omega
  have hjI : (j : Int) < 512 := by omega
  refine wp_region_lat (fun y => y.cell? ⟨g, j, none⟩ = some (.int .u8 (c : Int))) 14 (by kernel_rfl) hcell (fun hHeld => ?_)
  refine lat_take 0 (v := ?_) rfl (by kernel_rfl) (by kernel_rfl) (by kernel_rfl) (by kernel_rfl) (fun _ _ _ h => h) (by rfl) ?_ (by assumption) ?_
  rotate_left
  · (intro w hSw; (try dsimp only at hSw); go_simp <;> with_reducible rfl)
  try simp only [Act.put, List.setIfInBounds_toArray, List.set_cons_zero, List.set_cons_succ]
  refine lat_take 1 (v := ?_) rfl (by kernel_rfl) (by kernel_rfl) (by kernel_rfl) (by kernel_rfl) (fun _ _ _ h => h) (by rfl) ?_ (by assumption) ?_
  rotate_left
  · (intro w hSw; (try dsimp only at hSw); go_simp <;> with_reducible rfl)
  try simp only [Act.put, List.setIfInBounds_toArray, List.set_cons_zero, List.set_cons_succ]
  refine lat_take 3 (v := ?_) rfl (by kernel_rfl) (by kernel_rfl) (by kernel_rfl) (by kernel_rfl) (fun _ _ _ h => h) (by rfl) ?_ (by assumption) ?_
  rotate_left
  · (intro w hSw; (try dsimp only at hSw); go_simp <;> with_reducible rfl)
  try simp only [Act.put, List.setIfInBounds_toArray, List.set_cons_zero, List.set_cons_succ]
  refine lat_take 4 (v := ?_) rfl (by kernel_rfl) (by kernel_rfl) (by kernel_rfl) (by kernel_rfl) (fun _ _ _ h => h) (by rfl) ?_ (by assumption) ?_
  rotate_left
  · (intro w hSw; (try dsimp only at hSw); go_simp <;> with_reducible rfl)
  try simp only [Act.put, List.setIfInBounds_toArray, List.set_cons_zero, List.set_cons_succ]
  refine lat_take 8 (v := ?_) rfl (by kernel_rfl) (by kernel_rfl) (by kernel_rfl) (by kernel_rfl) (fun _ _ _ h => h) (by rfl) ?_ (by assumption) ?_
  rotate_left
  · (intro w hSw; (try dsimp only at hSw); go_simp <;> with_reducible rfl)
  try simp only [Act.put, List.setIfInBounds_toArray, List.set_cons_zero, List.set_cons_succ]
  refine lat_one 2 rfl (by kernel_rfl) (by decide) (by rfl) (fun K hK => ?_)
  go_simp
  refine Calls.mono (R1.out _) ?_
  rintro e w6 ⟨rfl, hw⟩; subst w6
  dsimp only
  refine hK.out _ _ hcell (fun hHeld2 => ?_)
  clear hK hHeld
  try simp only [Act.put, List.setIfInBounds_toArray, List.set_cons_zero, List.set_cons_succ]
  refine lat_one 5 rfl (by kernel_rfl) (by decide) (by rfl) (fun K hK => ?_)
  go_simp
  refine Calls.mono (R1.out _) ?_
  rintro e w6 ⟨rfl, hw⟩; subst w6
  dsimp only
  refine hK.out _ _ hcell (fun hHeld3 => ?_)
  clear hK hHeld2
  try simp only [Act.put, List.setIfInBounds_toArray, List.set_cons_zero, List.set_cons_succ]
  refine lat_take 6 (v := ?_) rfl (by kernel_rfl) (by kernel_rfl) (by kernel_rfl) (by kernel_rfl) (fun _ _ _ h => h) (by rfl) ?_ (by assumption) ?_
  rotate_left
  · (intro w hSw; (try dsimp only at hSw); go_simp <;> with_reducible rfl)
  try simp only [Act.put, List.setIfInBounds_toArray, List.set_cons_zero, List.set_cons_succ]
  refine lat_take 7 (v := ?_) rfl (by kernel_rfl) (by kernel_rfl) (by kernel_rfl) (by kernel_rfl) (fun _ _ _ h => h) (by rfl) ?_ (by assumption) ?_
  rotate_left
  · (intro w hSw; (try dsimp only at hSw); go_simp <;> with_reducible rfl)
  try simp only [Act.put, List.setIfInBounds_toArray, List.set_cons_zero, List.set_cons_succ]
  refine lat_one 9 rfl (by kernel_rfl) (by decide) (by rfl) (fun K hK => ?_)
  go_simp
  refine Calls.mono (R2.out _) ?_
  rintro e w6 ⟨rfl, hw⟩; subst w6
  dsimp only
  refine hK.out _ _ hcell (fun hHeld4 => ?_)
  clear hK hHeld3
  try simp only [Act.put, List.setIfInBounds_toArray, List.set_cons_zero, List.set_cons_succ]
  refine lat_take 10 (v := ?_) rfl (by kernel_rfl) (by kernel_rfl) (by kernel_rfl) (by kernel_rfl) (fun _ _ _ h => h) (by rfl) ?_ (by assumption) ?_
  rotate_left
  · (intro w hSw; (try dsimp only at hSw); go_simp <;> with_reducible rfl)
  try simp only [Act.put, List.setIfInBounds_toArray, List.set_cons_zero, List.set_cons_succ]
  refine lat_take 11 (v := ?_) rfl (by kernel_rfl) (by kernel_rfl) (by kernel_rfl) (by kernel_rfl) (fun _ _ _ h => h) (by rfl) ?_ (by assumption) ?_
  rotate_left
  · (intro w hSw; (try dsimp only at hSw); go_simp <;> with_reducible rfl)
  try simp only [Act.put, List.setIfInBounds_toArray, List.set_cons_zero, List.set_cons_succ]
  refine lat_take 12 (v := ?_) rfl (by kernel_rfl) (by kernel_rfl) (by kernel_rfl) (by kernel_rfl) (fun _ _ _ h => h) (by rfl) ?_ (by assumption) ?_
  rotate_left
  · (intro w hSw; (try dsimp only at hSw); go_simp <;> with_reducible rfl)
  try simp only [Act.put, List.setIfInBounds_toArray, List.set_cons_zero, List.set_cons_succ]
  refine lat_take 13 (v := ?_) rfl (by kernel_rfl) (by kernel_rfl) (by kernel_rfl) (by kernel_rfl) (fun _ _ _ h => h) (by rfl) ?_ (by assumption) ?_
  rotate_left
  · (intro w hSw; (try dsimp only at hSw); go_simp <;> with_reducible rfl)
  try simp only [Act.put, List.setIfInBounds_toArray, List.set_cons_zero, List.set_cons_succ]
  refine lat_last 14 rfl (by kernel_rfl) (by decide) (by kernel_rfl) (by rfl) (fun K hK => ?_)
  have hfreeL : ((v3.alloc (.cells #[.int .i64 p1, .int .i64 p2, .int .i64 p3, .int .i64 p4, .int .i64 p5, .int .i64 p6, .int .i64 p7] 23)).drew).frozen? ⟨g, j, none⟩ = false := hfree
  go_simp
  refine hK.out _ _ ?_
  clear hK hHeld4
  try simp only [Act.put, List.setIfInBounds_toArray, List.set_cons_zero, List.set_cons_succ]
  go_wp2_with (first
    | (go_at_call 12; refine (KF.out _ _ (ht.below HB6.out) (hh.below HB6.out) (HL.out.row HB'.out)).mono ?_; rintro e v5 ⟨rfl, hb7⟩; have hb8 := HB6.out.trans (hb7.mono HB6.out.size); clear hb7; simp only [Pl.v, z7])
    | (go_at_call 11; refine (awake_any _ ((hh.below hb8).alloc _)).mono ?_; rintro e v6 ⟨rfl, hb9⟩; have hb10 : Below w.heap.size w v6 := (hb8.alloc hb8.size _).trans (hb9.mono (by simp; have := hb8.size; omega)); clear hb9))
  go_ret
  exact ⟨rfl, hb10⟩
set_option maxRecDepth 100000 in
theorem layoutBack_walk (a0 : Int) (a1 : Int) (a2 : Int) (a3 : Int) (w : World) (ht : Tab w) (hh : Hol w) (w0 : (Lit.int .i64 a0).wf = true) (w1 : (Lit.int .i64 a1).wf = true) (w2 : (Lit.int .i64 a2).wf = true) (w3 : (Lit.int .i64 a3).wf = true) :
    Calls Tryd.prog 5 #[.int .i64 a0, .int .i64 a1, .int .i64 a2, .int .i64 a3] w fun e w' => e = .returned (.bool true) ∧ Below w.heap.size w w' := by
  obtain ⟨b2, b2'⟩ := bd64 w2
  obtain ⟨b3, b3'⟩ := bd64 w3
  clear w0 w1 w2 w3
  have K1 := make_any a0 a1
  by_cases hc : mkE a0 a1 = 0
  · have hde := dec_enc a0 a1 hc
    have m512 := Int.emod_nonneg a2 (show (512 : Int) ≠ 0 by decide)
    have n512 := Int.emod_lt_of_pos a2 (show (0 : Int) < 512 by decide)
    have m255 := Int.emod_nonneg a3 (show (255 : Int) ≠ 0 by decide)
    have n255 := Int.emod_lt_of_pos a3 (show (0 : Int) < 255 by decide)
    have hjl : (a2 % 512).toNat < 512 := by omega
    have hdl : (a3 % 255).toNat + 1 ≤ 255 := by omega
    have hfl := dec_flip (nums (mkP a0 a1)) (a2 % 512).toNat ((a3 % 255).toNat + 1) hjl (by omega) (by omega)
    have hset : ((encL (nums (mkP a0 a1))).set (a2 % 512).toNat ((encL (nums (mkP a0 a1))).getD (a2 % 512).toNat 0 ^^^ ((a3 % 255).toNat + 1))).length = 512 := by rw [List.length_set, encL_len]
    rw [hc] at K1
    refine back_in a0 a1 a2 a3 w ht hh (mkP a0 a1) (encL (nums (mkP a0 a1))) _ (a2 % 512).toNat ((a3 % 255).toNat + 1) hjl (by omega) hdl (encL_len _) (encL_lt _) ?_ rfl K1 (encode_any _) (fun g w' h1 h2 h3 => ?_) (fun g w' h1 h2 h3 => ?_) (fun w' => round_any a2 512 w' b2 b2' (by omega) (by omega)) (fun w' => round_any a3 255 w' b3 b3' (by omega) (by omega))
    · intro i
      by_cases hi : i < 512
      · rw [getD_set _ _ _ _ (by rw [encL_len]; exact hi)]
        split
        · exact Nat.xor_lt_two_pow (n := 8) (encL_lt _ _) (by omega)
        · exact encL_lt _ _
      · rw [getD_out _ _ (by rw [hset]; omega)]; omega
    · have := decode_any (some ⟨g, 0, none⟩) 512 (encL (nums (mkP a0 a1))) w' h1 h2 h3 (by rw [encL_len]; decide)
      unfold decP decE at this
      rw [if_pos hde.1, if_pos hde.1, hde.2, encL_len] at this
      exact this
    · have := decode_any (some ⟨g, 0, none⟩) 512 _ w' h1 h2 h3 (by rw [hset]; decide)
      unfold decP decE at this
      rw [if_neg hfl, if_neg hfl, hset] at this
      exact this
  · have hz := mkP_bad a0 a1 hc
    rw [hz] at K1
    have hcc : ((mkE a0 a1) != 0) = true := by rw [bne_iff_ne]; exact hc
    generalize mkE a0 a1 = c at *
    have HK1 : Hid (∀ w', Hol w' → _) := K1
    clear K1 hz hc b2 b2' b3 b3'
    go_enter Tryd.func5, Tryd.ntmps5
    go_wp2_with (first
      | (go_at_call 9; refine (Calls.mono (HK1.out _ hh) ?_); rintro e v1 ⟨rfl, hb1⟩; have h1 := hh.below hb1; have hs1 := hb1.size; simp only [Pl.v, z7])
      | (go_at_call 11; refine (awake_any _ (h1.alloc _)).mono ?_; rintro e v3 ⟨rfl, hb4⟩; have hb5 : Below w.heap.size w v3 := (hb1.alloc hs1 _).trans (hb4.mono (by simp; omega)); clear hb4))
    go_ret
    exact ⟨rfl, hb5⟩
end Go.Proofs.YtbiniohacnaieaaDoor
