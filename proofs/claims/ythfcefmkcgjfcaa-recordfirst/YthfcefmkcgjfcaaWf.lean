/- The walk of RecordFirst. -/
import Derived.Test.YthfcefmkcgjfcaaLw
namespace Go.Proofs.Ythfcefmkcgjfcaa
set_option linter.unusedSimpArgs false
set_option linter.unusedVariables false
open Go.RowKit
set_option maxRecDepth 100000 in
set_option maxHeartbeats 1000000 in
theorem recordFirst_walk (r : Rc) (a1 a2 : Int) (w : World) (w0 : RcOk r) (w1 : (Lit.int .i64 a1).wf = true) (w2 : (Lit.int .i64 a2).wf = true) :
    Calls Try.prog 9 #[.agg r.cells, .int .i64 a1, .int .i64 a2] w fun e w' => e = .returned (.bool true) ∧ Below w.heap.size w w' := by
  clear w0 w1 w2
  have HE : Hid _ := encode_any r a1
  have HA : Hid _ := awake_any
  by_cases ho : timeB a2 = true
  · obtain ⟨q0, q1⟩ := (time_iff a2).1 ho
    by_cases he : encE r a1 = 0
    · obtain ⟨e1, hc, hf⟩ := enc_ok he
      obtain ⟨f0, f1⟩ := (time_iff a1).1 hf
      obtain ⟨t0, t1, _, _, k1, v1, _, _⟩ := chk_ok hc
      have hel := encL_len r a1 k1 v1
      have hL0 := encL_pos r a1
      have HLT : Hid (∀ i, (encL r a1).getD i 0 < 256) := encL_lt r a1 hc hf
      obtain ⟨m1, m2⟩ := dec_moved r a1 a2 hc hf ho
      have HDE : Hid (∀ a cap w', Row w' a (encL r a1) → (encL r a1).length ≤ cap → cap ≤ maxLen → Calls Try.prog 16 #[.slice a (encL r a1).length cap, .int .i64 a2] w' fun e w2 => e = .returned (.tuple #[.agg (decR (encL r a1) a2).cells, .int .i64 ((decN (encL r a1) a2 : Nat) : Int), .int .i64 (decE (encL r a1) a2)]) ∧ Below w'.heap.size w' w2) := fun a cap w' h1 h2 h3 => decode_any a cap (encL r a1) a2 w' h1 h2 h3
      rw [he, e1] at HE
      by_cases ht : timeB (r.t - a1 + a2) = true
      · obtain ⟨e2, e3⟩ := m1 ht
        obtain ⟨h0, h1⟩ := (time_iff _).1 ht
        rw [e2, e3] at HDE
        generalize decN (encL r a1) a2 = n at *
        generalize encL r a1 = L at *
        obtain ⟨hk, k, hv, v, t, o⟩ := r
        simp only at k1 v1 t0 t1 h0 h1
        simp only [Rc.cells, mv] at HE HDE ⊢
        clear he e1 hc hf m1 m2 e2 e3 ht ho
        have hsI : (k.size : Int) + (v.size : Int) ≤ 4000 := by omega
        have k1I : (k.size : Int) ≤ 2000 := by omega
        have v1I : (v.size : Int) ≤ 2000 := by omega
        as_aux_lemma =>
          go_enter Try.func9, Try.ntmps9
          go_wp2_with (first
            | (go_at_call 11; refine (HE.out _).mono ?_; rintro e w1 ⟨x, rfl, hown, hb1⟩; obtain ⟨g1, c1, rfl, ho1⟩ := owns_some hown hL0; have hle1 := ho1.le)
            | (go_at_call 16; refine (HDE.out _ _ _ (ho1.row HLT.out) hle1.1 hle1.2).mono ?_; rintro e w4 ⟨rfl, hb4⟩; have HS4 : Hid _ := SE.below (SE.new w ⟨hk, k, hv, v, t, o⟩) (hb1.trans (hb4.mono hb1.size)); have HF4 : Hid _ := box_free (hb1.trans (hb4.mono hb1.size)); obtain ⟨⟨z0, z1, z2, z3, z4, z5⟩, _⟩ := HS4.out; simp only at z0 z1 z2 z3 z4 z5; have hz4 := World.block_lt_of_cell? _ _ z0; simp only at hz4; have hfz := HF4.out)
            | (go_at_call 10; refine (HA.out _).mono ?_; rintro e w5 ⟨rfl, hb5⟩))
          go_ret
          refine ⟨rfl, Below.trans ?_ (hb5.mono ?_)⟩
          · exact (HS4.out.2.setCell (p := ⟨w.heap.size, 4, none⟩) (Nat.le_refl _) _).alloc (by have := HS4.out.2.size; simp; omega) _
          · have := HS4.out.2.size
            simp
            omega
      · have ht' : timeB (r.t - a1 + a2) = false := by simpa using ht
        have e3 := m2 ht'
        have hT : r.t - a1 + a2 < 0 ∨ 1125899906842624 < r.t - a1 + a2 := by
          have : ¬ (0 ≤ r.t - a1 + a2 ∧ r.t - a1 + a2 ≤ 1125899906842624) := fun c => ht ((time_iff _).2 c)
          omega
        rw [e3] at HDE
        generalize decN (encL r a1) a2 = n at *
        generalize decR (encL r a1) a2 = rr at *
        generalize encL r a1 = L at *
        obtain ⟨hk, k, hv, v, t, o⟩ := r
        obtain ⟨rk0, rk1, rk2, rk3, rk4, rk5⟩ := rr
        simp only at k1 v1 t0 t1 hT
        simp only [Rc.cells] at HE HDE ⊢
        clear he e1 hc hf m1 m2 e3 ht ho ht'
        have hsI : (k.size : Int) + (v.size : Int) ≤ 4000 := by omega
        have k1I : (k.size : Int) ≤ 2000 := by omega
        have v1I : (v.size : Int) ≤ 2000 := by omega
        rcases hT with hT | hT
        · as_aux_lemma =>
            go_enter Try.func9, Try.ntmps9
            go_wp2_with (first
              | (go_at_call 11; refine (HE.out _).mono ?_; rintro e w1 ⟨x, rfl, hown, hb1⟩; obtain ⟨g1, c1, rfl, ho1⟩ := owns_some hown hL0; have hle1 := ho1.le)
              | (go_at_call 16; refine (HDE.out _ _ _ (ho1.row HLT.out) hle1.1 hle1.2).mono ?_; rintro e w4 ⟨rfl, hb4⟩; have HS4 : Hid _ := SE.below (SE.new w ⟨hk, k, hv, v, t, o⟩) (hb1.trans (hb4.mono hb1.size)); obtain ⟨⟨z0, z1, z2, z3, z4, z5⟩, _⟩ := HS4.out; simp only at z0 z1 z2 z3 z4 z5; have hz4 := World.block_lt_of_cell? _ _ z0; simp only at hz4)
              | (go_at_call 10; refine (HA.out _).mono ?_; rintro e w5 ⟨rfl, hb5⟩))
            go_ret
            exact ⟨rfl, (HS4.out.2.alloc HS4.out.2.size _).trans (hb5.mono (by have := HS4.out.2.size; simp; omega))⟩
        · have hT2 : ¬ t - a1 + a2 < 0 := by omega
          as_aux_lemma =>
            go_enter Try.func9, Try.ntmps9
            go_wp2_with (first
              | (go_at_call 11; refine (HE.out _).mono ?_; rintro e w1 ⟨x, rfl, hown, hb1⟩; obtain ⟨g1, c1, rfl, ho1⟩ := owns_some hown hL0; have hle1 := ho1.le)
              | (go_at_call 16; refine (HDE.out _ _ _ (ho1.row HLT.out) hle1.1 hle1.2).mono ?_; rintro e w4 ⟨rfl, hb4⟩; have HS4 : Hid _ := SE.below (SE.new w ⟨hk, k, hv, v, t, o⟩) (hb1.trans (hb4.mono hb1.size)); obtain ⟨⟨z0, z1, z2, z3, z4, z5⟩, _⟩ := HS4.out; simp only at z0 z1 z2 z3 z4 z5; have hz4 := World.block_lt_of_cell? _ _ z0; simp only at hz4)
              | (go_at_call 10; refine (HA.out _).mono ?_; rintro e w5 ⟨rfl, hb5⟩))
            go_ret
            exact ⟨rfl, (HS4.out.2.alloc HS4.out.2.size _).trans (hb5.mono (by have := HS4.out.2.size; simp; omega))⟩
    · have hne : (encE r a1 != 0) = true := by rw [bne_iff_ne]; exact he
      rw [enc_no he] at HE
      generalize encE r a1 = c at *
      obtain ⟨hk, k, hv, v, t, o⟩ := r
      simp only [Rc.cells] at HE ⊢
      clear he ho
      by_cases hs : 6000 < wrap64 ((k.size : Int) + (v.size : Int))
      · as_aux_lemma =>
          go_enter Try.func9, Try.ntmps9
          go_wp2_with (go_at_call 10; refine (HA.out _).mono ?_; rintro e w5 ⟨rfl, hb5⟩)
          go_ret
          exact ⟨rfl, (below_box _).trans (hb5.mono (by simp))⟩
      · as_aux_lemma =>
          go_enter Try.func9, Try.ntmps9
          go_wp2_with (first
            | (go_at_call 11; refine (HE.out _).mono ?_; rintro e w1 ⟨x, rfl, hown, hb1⟩; obtain ⟨g1, c1, rfl, _, _⟩ := owns_sl hown (by simp); clear hown)
            | (go_at_call 10; refine (HA.out _).mono ?_; rintro e w5 ⟨rfl, hb5⟩))
          go_ret
          have hb := (below_box _).trans (hb1.mono (by simp))
          exact ⟨rfl, hb.trans (hb5.mono hb.size)⟩
  · have ho2 : timeB a2 = false := by simpa using ho
    have hq : a2 < 0 ∨ 1125899906842624 < a2 := by
      have : ¬ (0 ≤ a2 ∧ a2 ≤ 1125899906842624) := fun c => ho ((time_iff a2).2 c)
      omega
    obtain ⟨hk, k, hv, v, t, o⟩ := r
    simp only [Rc.cells]
    clear HE ho ho2
    by_cases hs : 6000 < wrap64 ((k.size : Int) + (v.size : Int))
    · as_aux_lemma =>
        clear hq
        go_enter Try.func9, Try.ntmps9
        go_wp2_with (go_at_call 10; refine (HA.out _).mono ?_; rintro e w5 ⟨rfl, hb5⟩)
        go_ret
        exact ⟨rfl, (below_box _).trans (hb5.mono (by simp))⟩
    · rcases hq with hq | hq
      · as_aux_lemma =>
          go_enter Try.func9, Try.ntmps9
          go_wp2_with (go_at_call 10; refine (HA.out _).mono ?_; rintro e w5 ⟨rfl, hb5⟩)
          go_ret
          exact ⟨rfl, (below_box _).trans (hb5.mono (by simp))⟩
      · have hq2 : ¬ a2 < 0 := by omega
        as_aux_lemma =>
          go_enter Try.func9, Try.ntmps9
          go_wp2_with (go_at_call 10; refine (HA.out _).mono ?_; rintro e w5 ⟨rfl, hb5⟩)
          go_ret
          exact ⟨rfl, (below_box _).trans (hb5.mono (by simp))⟩
end Go.Proofs.Ythfcefmkcgjfcaa
