/- The walk of RecordBack. -/
import Derived.Test.YthfcefmkcgjfcaaLw
namespace Go.Proofs.Ythfcefmkcgjfcaa
set_option linter.unusedSimpArgs false
set_option linter.unusedVariables false
open Go.RowKit
set_option maxRecDepth 100000 in
theorem recordBack_walk (r : Rc) (a1 : Int) (a2 : Option Addr) (cap2 : Nat) (l2 : List Nat) (w : World) (w0 : RcOk r) (w1 : (Lit.int .i64 a1).wf = true) (w2 : Came w a2 cap2 l2) :
    Calls Try.prog 5 #[.agg r.cells, .int .i64 a1, .slice a2 l2.length cap2] w fun e w' => e = .returned (.bool true) ∧ Below w.heap.size w w' := by
  obtain ⟨w2, _, _, m2, n2⟩ := w2
  clear w0 w1
  have HE : Hid _ := encode_any r a1
  have HA : Hid _ := awake_any
  by_cases he : encE r a1 = 0
  · obtain ⟨e1, hc, hf⟩ := enc_ok he
    obtain ⟨_, _, _, _, k1, v1, _, _⟩ := chk_ok hc
    have hel := encL_len r a1 k1 v1
    have hL0 := encL_pos r a1
    obtain ⟨_, b1, b2, b3⟩ := dec_back r a1 l2 hc hf
    obtain ⟨M, HM⟩ : ∃ M, Hid (M = encL r a1 ++ l2) := ⟨_, rfl⟩
    have HLT : Hid (∀ w', Row w' a2 l2 → ∀ i, M.getD i 0 < 256) := by
      intro w' h
      rw [HM.out]
      exact app_lt (encL_lt r a1 hc hf) h.lt
    have HDE : Hid (∀ a cap w', Row w' a M → M.length ≤ cap → cap ≤ maxLen → Calls Try.prog 16 #[.slice a M.length cap, .int .i64 a1] w' fun e w2 => e = .returned (.tuple #[.agg r.cells, .int .i64 ((encL r a1).length : Nat), .int .i64 0]) ∧ Below w'.heap.size w' w2) := by
      intro a cap w' h1 h2 h3
      have := decode_any a cap M a1 w' h1 h2 h3
      rw [HM.out, b1, b2, b3] at this
      rw [HM.out]
      exact this
    rw [he, e1] at HE
    generalize encL r a1 = L at *
    obtain ⟨hk, k, hv, v, t, o⟩ := r
    simp only at k1 v1
    simp only [Rc.cells] at HE HDE ⊢
    clear he e1 hc hf b1 b2 b3
    by_cases hs : k.size + v.size + l2.length ≤ 6000
    · have hsI : (k.size : Int) + (v.size : Int) + (l2.length : Int) ≤ 6000 := by omega
      have k1I : (k.size : Int) ≤ 2000 := by omega
      have v1I : (v.size : Int) ≤ 2000 := by omega
      go_enter Try.func5, Try.ntmps5
      go_wp2_with (first
        | (go_at_call 11; refine (HE.out _).mono ?_; rintro e w1 ⟨x, rfl, hown, hb1⟩; obtain ⟨g1, c1, rfl, ho1⟩ := owns_some hown hL0; clear ho1)
        | (at_builtin; refine wpList_append_row (by rfl) _ _ rfl _ _ _ _ _ rfl hown hb1 hb1.size a2 cap2 l2 rfl (w2.below ((below_box _).trans (hb1.mono (by simp)))) n2 (by omega) ?_; intro v' w3 hown2 hb3; obtain ⟨g3, c3, rfl, ho3⟩ := app_some hown2 hL0 HM.out; clear hown2 hown)
        | (go_at_call 16; refine (HDE.out _ _ _ (ho3.row (HLT.out _ (w2.below ((below_box _).trans (hb3.mono (by simp)))))) ho3.le.1 ho3.le.2).mono ?_; rintro e w4 ⟨rfl, hb4⟩; have HS4 : Hid _ := SE.below (SE.new w ⟨hk, k, hv, v, t, o⟩) (hb3.trans (hb4.mono hb3.size)); obtain ⟨⟨z0, z1, z2, z3, z4, z5⟩, _⟩ := HS4.out; simp only at z0 z1 z2 z3 z4 z5; have hz4 := World.block_lt_of_cell? _ _ z0; simp only at hz4)
        | (go_at_call 10; refine (HA.out _).mono ?_; rintro e w5 ⟨rfl, hb5⟩))
      go_ret
      exact ⟨rfl, (HS4.out.2.alloc HS4.out.2.size _).trans (hb5.mono (by have := HS4.out.2.size; simp; omega))⟩
    · have hsI : 6000 < (k.size : Int) + (v.size : Int) + (l2.length : Int) := by omega
      have k1I : (k.size : Int) ≤ 2000 := by omega
      have v1I : (v.size : Int) ≤ 2000 := by omega
      have m2I : (l2.length : Int) ≤ 140737488351232 := by omega
      go_enter Try.func5, Try.ntmps5
      go_wp2_with (go_at_call 10; refine (HA.out _).mono ?_; rintro e w5 ⟨rfl, hb5⟩)
      go_ret
      exact ⟨rfl, (below_box _).trans (hb5.mono (by simp))⟩
  · have hne : (encE r a1 != 0) = true := by rw [bne_iff_ne]; exact he
    rw [enc_no he] at HE
    generalize encE r a1 = c at *
    obtain ⟨hk, k, hv, v, t, o⟩ := r
    simp only [Rc.cells] at HE ⊢
    clear he
    go_enter Try.func5, Try.ntmps5
    go_wp2_with (first
      | (go_at_call 11; refine (HE.out _).mono ?_; rintro e w1 ⟨x, rfl, hown, hb1⟩; obtain ⟨g1, c1, rfl, _, _⟩ := owns_sl hown (by simp); clear hown)
      | (go_at_call 10; refine (HA.out _).mono ?_; rintro e w5 ⟨rfl, hb5⟩))
    · go_ret
      exact ⟨rfl, (below_box _).trans (hb5.mono (by simp))⟩
    · go_ret
      have hb := (below_box _).trans (hb1.mono (by simp))
      exact ⟨rfl, hb.trans (hb5.mono hb.size)⟩
end Go.Proofs.Ythfcefmkcgjfcaa
