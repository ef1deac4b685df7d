/- The walk of RecordEncodes. -/
import Derived.Test.YthfcefmkcgjfcaaEa
namespace Go.Proofs.Ythfcefmkcgjfcaa
set_option linter.unusedSimpArgs false
set_option linter.unusedVariables false
open Go.RowKit
theorem encR_small (r : Rc) (first : Int) : (encR r first).length ≤ 5000 ∧ ∀ i, (encR r first).getD i 0 < 256 := by
  by_cases h : encE r first = 0
  · obtain ⟨e, hc, hf⟩ := enc_ok h
    obtain ⟨_, _, _, _, k1, v1, _, _⟩ := chk_ok hc
    rw [e]
    exact ⟨encL_len r first k1 v1, encL_lt r first hc hf⟩
  · rw [enc_no h]
    exact ⟨by simp, by simp⟩
set_option maxRecDepth 100000 in
set_option maxHeartbeats 1000000 in
theorem recordEncodes_walk (r : Rc) (a1 : Int) (u : World) (w0 : RcOk r) (w1 : (Lit.int .i64 a1).wf = true) :
    Calls Try.prog 3 #[.agg r.cells, .int .i64 a1] u fun e w' => e = .returned (.bool true) ∧ Below u.heap.size u w' := by
  clear w0 w1
  have HE : Hid _ := encode_any r a1
  have HR : Hid _ := rencode_any r a1
  have HA : Hid _ := awake_any
  have HC : Hid _ := check_any r
  have HD : Hid _ := rcheck_any r
  obtain ⟨hl, hlt⟩ := encR_small r a1
  have HLT : Hid _ := hlt
  generalize encR r a1 = L at *
  generalize encE r a1 = c at *
  generalize chk r = d at *
  have HBY : Hid (∀ a ca b cb w', Row w' a L → Row w' b L → Calls Try.prog 13 #[.slice a L.length ca, .slice b L.length cb] w' fun e w2 => e = .returned (.bool true) ∧ ∃ n, w2 = w'.drewN n) := by
    intro a ca b cb w' h1 h2
    have := bytes_any a ca L b cb L w' h1 h2 (by unfold maxLen; omega) (by unfold maxLen; omega)
    rw [decide_eq_true rfl] at this
    exact this
  obtain ⟨hk, k, hv, v, t, o⟩ := r
  simp only [Rc.cells] at HE HR HC HD ⊢
  clear hlt
  by_cases hs : 6000 < wrap64 ((k.size : Int) + (v.size : Int))
  · go_enter Try.func3, Try.ntmps3
    go_wp2_with (go_at_call 10; refine (HA.out _).mono ?_; rintro e w5 ⟨rfl, hb5⟩)
    go_ret
    exact ⟨rfl, (below_box _).trans (hb5.mono (by simp))⟩
  · go_enter Try.func3, Try.ntmps3
    go_wp2_with (first
      | (go_at_call 11; refine (HE.out _).mono ?_; rintro e w1 ⟨x, rfl, hown, hb1⟩; obtain ⟨g1, c1, rfl, R1, n1⟩ := owns_sl hown HLT.out; clear hown; obtain ⟨⟨z0, z1, z2, z3, z4, z5⟩, _⟩ := SE.below (SE.new u ⟨hk, k, hv, v, t, o⟩) hb1; simp only at z0 z1 z2 z3 z4 z5)
      | (go_at_call 12; refine (HR.out _).mono ?_; rintro e w2 ⟨x, rfl, hown, hb2⟩; obtain ⟨g2, c2, rfl, R2, n2⟩ := owns_sl hown HLT.out; clear hown z0 z1 z2 z3 z4 z5; have hb12 := hb2; have hbT := hb1.trans (hb2.mono hb1.size)))
    refine wp_region_lat (fun y => Below (u.alloc (.cells #[.bool hk, .string k, .bool hv, .string v, .int .i64 t, .int .i64 o] 23)).heap.size (u.alloc (.cells #[.bool hk, .string k, .bool hv, .string v, .int .i64 t, .int .i64 o] 23)) y) 18 (by kernel_rfl) (hbT.drew) (fun hHeld => ?_)
    refine lat_take 0 (v := ?_) rfl (by kernel_rfl) (by kernel_rfl) (by kernel_rfl) (by kernel_rfl) (fun _ _ _ h => h) (by rfl) ?_ (by assumption) ?_
    rotate_left
    · (intro w hSw; obtain ⟨⟨z0, z1, z2, z3, z4, z5⟩, _⟩ := SE.below (SE.new u ⟨hk, k, hv, v, t, o⟩) hSw; simp only at z0 z1 z2 z3 z4 z5; go_simp <;> with_reducible rfl)
    try simp only [Act.put, List.setIfInBounds_toArray, List.set_cons_zero, List.set_cons_succ]
    refine lat_take 1 (v := ?_) rfl (by kernel_rfl) (by kernel_rfl) (by kernel_rfl) (by kernel_rfl) (fun _ _ _ h => h) (by rfl) ?_ (by assumption) ?_
    rotate_left
    · (intro w hSw; obtain ⟨⟨z0, z1, z2, z3, z4, z5⟩, _⟩ := SE.below (SE.new u ⟨hk, k, hv, v, t, o⟩) hSw; simp only at z0 z1 z2 z3 z4 z5; go_simp <;> with_reducible rfl)
    try simp only [Act.put, List.setIfInBounds_toArray, List.set_cons_zero, List.set_cons_succ]
    refine lat_one 2 rfl (by kernel_rfl) (by decide) (by rfl) (fun K hK => ?_)
    go_simp
    refine Calls.mono (HBY.out _ _ _ _ _ (R1.below hb12.drew) (R2.drewN 1)) ?_
    rintro e wA ⟨rfl, n, rfl⟩
    try dsimp only
    refine hK.out _ _ (below_drewN hHeld n) (fun hHwA => ?_)
    clear hK
    try simp only [Act.put, List.setIfInBounds_toArray, List.set_cons_zero, List.set_cons_succ]
    refine lat_take 3 (v := ?_) rfl (by kernel_rfl) (by kernel_rfl) (by kernel_rfl) (by kernel_rfl) (fun _ _ _ h => h) (by rfl) ?_ (by assumption) ?_
    rotate_left
    · (intro w hSw; obtain ⟨⟨z0, z1, z2, z3, z4, z5⟩, _⟩ := SE.below (SE.new u ⟨hk, k, hv, v, t, o⟩) hSw; simp only at z0 z1 z2 z3 z4 z5; go_simp <;> with_reducible rfl)
    try simp only [Act.put, List.setIfInBounds_toArray, List.set_cons_zero, List.set_cons_succ]
    refine lat_take 4 (v := ?_) rfl (by kernel_rfl) (by kernel_rfl) (by kernel_rfl) (by kernel_rfl) (fun _ _ _ h => h) (by rfl) ?_ (by assumption) ?_
    rotate_left
    · (intro w hSw; obtain ⟨⟨z0, z1, z2, z3, z4, z5⟩, _⟩ := SE.below (SE.new u ⟨hk, k, hv, v, t, o⟩) hSw; simp only at z0 z1 z2 z3 z4 z5; go_simp <;> with_reducible rfl)
    try simp only [Act.put, List.setIfInBounds_toArray, List.set_cons_zero, List.set_cons_succ]
    refine lat_take 5 (v := ?_) rfl (by kernel_rfl) (by kernel_rfl) (by kernel_rfl) (by kernel_rfl) (fun _ _ _ h => h) (by rfl) ?_ (by assumption) ?_
    rotate_left
    · (intro w hSw; obtain ⟨⟨z0, z1, z2, z3, z4, z5⟩, _⟩ := SE.below (SE.new u ⟨hk, k, hv, v, t, o⟩) hSw; simp only at z0 z1 z2 z3 z4 z5; go_simp <;> with_reducible rfl)
    try simp only [Act.put, List.setIfInBounds_toArray, List.set_cons_zero, List.set_cons_succ]
    refine lat_take 6 (v := ?_) rfl (by kernel_rfl) (by kernel_rfl) (by kernel_rfl) (by kernel_rfl) (fun _ _ _ h => h) (by rfl) ?_ (by assumption) ?_
    rotate_left
    · (intro w hSw; obtain ⟨⟨z0, z1, z2, z3, z4, z5⟩, _⟩ := SE.below (SE.new u ⟨hk, k, hv, v, t, o⟩) hSw; simp only at z0 z1 z2 z3 z4 z5; go_simp <;> with_reducible rfl)
    try simp only [Act.put, List.setIfInBounds_toArray, List.set_cons_zero, List.set_cons_succ]
    refine lat_take 7 (v := ?_) rfl (by kernel_rfl) (by kernel_rfl) (by kernel_rfl) (by kernel_rfl) (fun _ _ _ h => h) (by rfl) ?_ (by assumption) ?_
    rotate_left
    · (intro w hSw; obtain ⟨⟨z0, z1, z2, z3, z4, z5⟩, _⟩ := SE.below (SE.new u ⟨hk, k, hv, v, t, o⟩) hSw; simp only at z0 z1 z2 z3 z4 z5; go_simp <;> with_reducible rfl)
    try simp only [Act.put, List.setIfInBounds_toArray, List.set_cons_zero, List.set_cons_succ]
    refine lat_take 8 (v := ?_) rfl (by kernel_rfl) (by kernel_rfl) (by kernel_rfl) (by kernel_rfl) (fun _ _ _ h => h) (by rfl) ?_ (by assumption) ?_
    rotate_left
    · (intro w hSw; obtain ⟨⟨z0, z1, z2, z3, z4, z5⟩, _⟩ := SE.below (SE.new u ⟨hk, k, hv, v, t, o⟩) hSw; simp only at z0 z1 z2 z3 z4 z5; go_simp <;> with_reducible rfl)
    try simp only [Act.put, List.setIfInBounds_toArray, List.set_cons_zero, List.set_cons_succ]
    refine lat_take 9 (v := ?_) rfl (by kernel_rfl) (by kernel_rfl) (by kernel_rfl) (by kernel_rfl) (fun _ _ _ h => h) (by rfl) ?_ (by assumption) ?_
    rotate_left
    · (intro w hSw; obtain ⟨⟨z0, z1, z2, z3, z4, z5⟩, _⟩ := SE.below (SE.new u ⟨hk, k, hv, v, t, o⟩) hSw; simp only at z0 z1 z2 z3 z4 z5; go_simp <;> with_reducible rfl)
    try simp only [Act.put, List.setIfInBounds_toArray, List.set_cons_zero, List.set_cons_succ]
    refine lat_take 11 (v := ?_) rfl (by kernel_rfl) (by kernel_rfl) (by kernel_rfl) (by kernel_rfl) (fun _ _ _ h => h) (by rfl) ?_ (by assumption) ?_
    rotate_left
    · (intro w hSw; obtain ⟨⟨z0, z1, z2, z3, z4, z5⟩, _⟩ := SE.below (SE.new u ⟨hk, k, hv, v, t, o⟩) hSw; simp only at z0 z1 z2 z3 z4 z5; go_simp <;> with_reducible rfl)
    try simp only [Act.put, List.setIfInBounds_toArray, List.set_cons_zero, List.set_cons_succ]
    refine lat_one 10 rfl (by kernel_rfl) (by decide) (by rfl) (fun K hK => ?_)
    go_simp
    refine Calls.mono (HC.out _) ?_
    rintro e wB ⟨rfl, hbB⟩
    try dsimp only
    refine hK.out _ _ ((below_drewN hbT (1 + n)).trans (hbB.mono hbT.size)) (fun hHwB => ?_)
    clear hK
    try simp only [Act.put, List.setIfInBounds_toArray, List.set_cons_zero, List.set_cons_succ]
    refine lat_one 12 rfl (by kernel_rfl) (by decide) (by rfl) (fun K hK => ?_)
    go_simp
    refine Calls.mono (HD.out _) ?_
    rintro e wC ⟨rfl, hbC⟩
    try dsimp only
    refine hK.out _ _ (hHwB.trans (hbC.mono hHwB.size)) (fun hHwC => ?_)
    clear hK
    try simp only [Act.put, List.setIfInBounds_toArray, List.set_cons_zero, List.set_cons_succ]
    refine lat_take 13 (v := ?_) rfl (by kernel_rfl) (by kernel_rfl) (by kernel_rfl) (by kernel_rfl) (fun _ _ _ h => h) (by rfl) ?_ (by assumption) ?_
    rotate_left
    · (intro w hSw; obtain ⟨⟨z0, z1, z2, z3, z4, z5⟩, _⟩ := SE.below (SE.new u ⟨hk, k, hv, v, t, o⟩) hSw; simp only at z0 z1 z2 z3 z4 z5; go_simp <;> with_reducible rfl)
    try simp only [Act.put, List.setIfInBounds_toArray, List.set_cons_zero, List.set_cons_succ]
    refine lat_take 14 (v := ?_) rfl (by kernel_rfl) (by kernel_rfl) (by kernel_rfl) (by kernel_rfl) (fun _ _ _ h => h) (by rfl) ?_ (by assumption) ?_
    rotate_left
    · (intro w hSw; obtain ⟨⟨z0, z1, z2, z3, z4, z5⟩, _⟩ := SE.below (SE.new u ⟨hk, k, hv, v, t, o⟩) hSw; simp only at z0 z1 z2 z3 z4 z5; go_simp <;> with_reducible rfl)
    try simp only [Act.put, List.setIfInBounds_toArray, List.set_cons_zero, List.set_cons_succ]
    refine lat_take 15 (v := ?_) rfl (by kernel_rfl) (by kernel_rfl) (by kernel_rfl) (by kernel_rfl) (fun _ _ _ h => h) (by rfl) ?_ (by assumption) ?_
    rotate_left
    · (intro w hSw; obtain ⟨⟨z0, z1, z2, z3, z4, z5⟩, _⟩ := SE.below (SE.new u ⟨hk, k, hv, v, t, o⟩) hSw; simp only at z0 z1 z2 z3 z4 z5; go_simp <;> with_reducible rfl)
    try simp only [Act.put, List.setIfInBounds_toArray, List.set_cons_zero, List.set_cons_succ]
    refine lat_one 16 rfl (by kernel_rfl) (by decide) (by rfl) (fun K hK => ?_)
    go_simp
    refine Calls.mono (HA.out _) ?_
    rintro e wD ⟨rfl, hbD⟩
    try dsimp only
    refine hK.out _ _ (hHwC.trans (hbD.mono hHwC.size)) (fun hHwD => ?_)
    clear hK
    try simp only [Act.put, List.setIfInBounds_toArray, List.set_cons_zero, List.set_cons_succ]
    refine lat_take 17 (v := ?_) rfl (by kernel_rfl) (by kernel_rfl) (by kernel_rfl) (by kernel_rfl) (fun _ _ _ h => h) (by rfl) ?_ (by assumption) ?_
    rotate_left
    · (intro w hSw; obtain ⟨⟨z0, z1, z2, z3, z4, z5⟩, _⟩ := SE.below (SE.new u ⟨hk, k, hv, v, t, o⟩) hSw; simp only at z0 z1 z2 z3 z4 z5; go_simp <;> with_reducible rfl)
    try simp only [Act.put, List.setIfInBounds_toArray, List.set_cons_zero, List.set_cons_succ]
    refine lat_last 18 rfl (by kernel_rfl) (by decide) (by kernel_rfl) (by rfl) (fun K hK => ?_)
    go_simp
    refine hK.out _ _ ?_
    clear hK
    try simp only [Act.put, List.setIfInBounds_toArray, List.set_cons_zero, List.set_cons_succ]
    go_wp2_with fail
    go_ret
    exact ⟨rfl, (below_box _).trans (hHwD.mono (by simp))⟩
end Go.Proofs.Ythfcefmkcgjfcaa
