/- The walk of RecordCuts. -/
import Derived.Test.YthfcefmkcgjfcaaLw
namespace Go.Proofs.Ythfcefmkcgjfcaa
set_option linter.unusedSimpArgs false
set_option linter.unusedVariables false
open Go.RowKit
set_option maxRecDepth 100000 in
theorem recordCuts_walk (r : Rc) (a1 a2 : Int) (w : World) (w0 : RcOk r) (w1 : (Lit.int .i64 a1).wf = true) (w2 : (Lit.int .i64 a2).wf = true) :
    Calls Try.prog 6 #[.agg r.cells, .int .i64 a1, .int .i64 a2] w fun e w' => e = .returned (.bool true) ∧ Below w.heap.size w w' := by
  clear w0 w1
  have HE : Hid _ := encode_any r a1
  have HA : Hid _ := awake_any
  obtain ⟨b0, b1⟩ := bd64 w2
  by_cases he : encE r a1 = 0
  · obtain ⟨e1, hc, hf⟩ := enc_ok he
    obtain ⟨_, _, _, _, k1, v1, _, _⟩ := chk_ok hc
    have hel := encL_len r a1 k1 v1
    have hL0 := encL_pos r a1
    have HLT : Hid (∀ i, (encL r a1).getD i 0 < 256) := encL_lt r a1 hc hf
    have HRO : Hid _ := fun w' => round_any a2 (encL r a1).length w' b0 b1 hL0 (by omega)
    have hm : (a2 % ((encL r a1).length : Int)).toNat < (encL r a1).length := by
      have h1 := Int.emod_lt_of_pos a2 (show (0 : Int) < ((encL r a1).length : Int) by omega)
      omega
    have hcut := dec_cut r a1 _ hc hf hm
    generalize (a2 % ((encL r a1).length : Int)).toNat = j at *
    have HDE : Hid (∀ a cap w', Row w' a (encL r a1) → (encL r a1).length ≤ cap → cap ≤ maxLen → Calls Try.prog 16 #[.slice a j cap, .int .i64 a1] w' fun e w2 => e = .returned (.tuple #[.agg rz.cells, .int .i64 0, .int .i64 10]) ∧ Below w'.heap.size w' w2) := by
      intro a cap w' h1 h2 h3
      have hj : ((encL r a1).take j).length = j := by simp; omega
      have := decode_any a cap ((encL r a1).take j) a1 w' (row_take j h1) (by omega) h3
      unfold decR decN decE at this
      rw [hcut, hj] at this
      exact this
    rw [he, e1] at HE
    generalize encL r a1 = L at *
    obtain ⟨hk, k, hv, v, t, o⟩ := r
    simp only at k1 v1
    simp only [Rc.cells] at HE ⊢
    simp only [Rc.cells, rz] at HDE
    clear he e1 hc hf hcut w2
    have hL0I : ((L.length : Int) == 0) = false := by rw [beq_eq_false_iff_ne]; omega
    have hsI : (k.size : Int) + (v.size : Int) ≤ 4000 := by omega
    have k1I : (k.size : Int) ≤ 2000 := by omega
    have v1I : (v.size : Int) ≤ 2000 := by omega
    have hjI : (j : Int) ≤ (L.length : Int) := by omega
    go_enter Try.func6, Try.ntmps6
    go_wp2_with (first
      | (go_at_call 11; refine (HE.out _).mono ?_; rintro e w1 ⟨x, rfl, hown, hb1⟩; obtain ⟨g1, c1, rfl, ho1⟩ := owns_some hown hL0; have hle1 := ho1.le; have hc1I : (L.length : Int) ≤ (c1 : Int) := (by omega); have hjc : (j : Int) ≤ (c1 : Int) := (by omega))
      | (go_at_call 18; refine (HRO.out _).mono ?_; rintro e w3 ⟨rfl, hw⟩; subst w3)
      | (go_at_call 16; refine (HDE.out _ _ _ (ho1.row HLT.out) hle1.1 hle1.2).mono ?_; rintro e w4 ⟨rfl, hb4⟩)
      | (go_at_call 10; refine (HA.out _).mono ?_; rintro e w5 ⟨rfl, hb5⟩))
    go_ret
    have hb := (below_box _).trans (hb1.mono (by simp))
    have hB := hb.trans (hb4.mono hb.size)
    exact ⟨rfl, (hB.alloc hB.size _).trans (hb5.mono (by have := hB.size; simp; omega))⟩
  · have hne : (encE r a1 != 0) = true := by rw [bne_iff_ne]; exact he
    rw [enc_no he] at HE
    generalize encE r a1 = c at *
    obtain ⟨hk, k, hv, v, t, o⟩ := r
    simp only [Rc.cells] at HE ⊢
    clear he
    go_enter Try.func6, Try.ntmps6
    go_wp2_with (first
      | (go_at_call 11; refine (HE.out _).mono ?_; rintro e w1 ⟨x, rfl, hown, hb1⟩; obtain ⟨g1, c1, rfl, _, _⟩ := owns_sl hown (by simp); clear hown)
      | (go_at_call 10; refine (HA.out _).mono ?_; rintro e w5 ⟨rfl, hb5⟩))
    · go_ret
      exact ⟨rfl, (below_box _).trans (hb5.mono (by simp))⟩
    · go_ret
      have hb := (below_box _).trans (hb1.mono (by simp))
      exact ⟨rfl, hb.trans (hb5.mono hb.size)⟩
end Go.Proofs.Ythfcefmkcgjfcaa
