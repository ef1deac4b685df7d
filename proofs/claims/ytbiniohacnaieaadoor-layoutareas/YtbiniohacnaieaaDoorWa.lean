/- The walk of LayoutAreas: true for every argument. -/
import Derived.Test.YtbiniohacnaieaaDoorOk
namespace Go.Proofs.YtbiniohacnaieaaDoor
set_option linter.unusedSimpArgs false
set_option linter.unusedVariables false
open Go.RowKit
set_option maxRecDepth 100000 in
set_option maxHeartbeats 1000000 in
theorem layoutAreas_walk (a0 : Int) (a1 : Int) (w : World) (hh : Hol w) (w0 : (Lit.int .i64 a0).wf = true) (w1 : (Lit.int .i64 a1).wf = true) :
    Calls Tryd.prog 6 #[.int .i64 a0, .int .i64 a1] w fun e w' => e = .returned (.bool true) ∧ Below w.heap.size w w' := by
  clear w0 w1
  have K1 := make_any a0 a1
  have HO : Hid (mkE a0 a1 = 0 → _) := mk_ok a0 a1
  generalize mkP a0 a1 = p at *
  generalize mkE a0 a1 = c at *
  by_cases hc : c = 0
  · subst hc
    obtain ⟨T, m, rfl, q1, q2, q3, q4, q5, q6, q7, q8, q9, q10, q11⟩ := HO.out rfl
    clear HO
    obtain ⟨D, hD⟩ : ∃ D : Int, D = a0 - (247 + m + T) := ⟨_, rfl⟩
    obtain ⟨C, hC⟩ : ∃ C : Int, C = 247 + m + T := ⟨_, rfl⟩
    obtain ⟨B, hB⟩ : ∃ B : Int, B = 247 + m := ⟨_, rfl⟩
    rw [← hD] at K1 q9 q10 q11
    rw [← hC] at K1
    rw [← hB] at K1
    have HK1 : Hid (∀ w', Hol w' → _) := K1
    clear K1
    have q12 : (C + D == a0) = true := by simp; omega
    have q13 : 0 < a1 := by omega
    have q14 : 0 < D := by omega
    have qT1 : 1 ≤ T := by omega
    have qT2 : T ≤ 512 := by omega
    have r1 : IntKind.i64.wrap (B - 247) = m := by rw [IntKind.wrap_i64]; omega
    have r2 : IntKind.i64.wrap (C - B) = T := by rw [IntKind.wrap_i64]; omega
    have r3 : IntKind.i64.wrap (m * 4096) = m * 4096 := by rw [IntKind.wrap_i64]; omega
    have r4 : IntKind.i64.wrap (m - 1) = m - 1 := by rw [IntKind.wrap_i64]; omega
    have r5 : IntKind.i64.wrap ((m - 1) * 4096) = (m - 1) * 4096 := by rw [IntKind.wrap_i64]; omega
    have r6 : IntKind.i64.wrap (D + 1) = D + 1 := by rw [IntKind.wrap_i64]; omega
    have r7 : IntKind.i64.wrap (T * 8) = T * 8 := by rw [IntKind.wrap_i64]; omega
    have r8 : IntKind.i64.wrap (T - 1) = T - 1 := by rw [IntKind.wrap_i64]; omega
    have r9 : IntKind.i64.wrap ((T - 1) * 8) = (T - 1) * 8 := by rw [IntKind.wrap_i64]; omega
    have r10 : IntKind.i64.wrap (C + D) = C + D := by rw [IntKind.wrap_i64]; omega
    have HQ : Hid (m = 1 ∨ (m - 1) * 4096 < D + 1) := q10
    clear q10 hD hC hB
    by_cases hm : m = 1
    · have hm1 : (m == 1) = true := by simp [hm]
      clear hm
      go_enter Tryd.func6, Tryd.ntmps6
      simp only [List.append]
      go_wp2_with (first
        | (go_at_call 9; refine (Calls.mono (HK1.out _ hh) ?_); rintro e v1 ⟨rfl, hb1⟩; have h1 := hh.below hb1; have hs1 := hb1.size; simp only [Pl.v]; clear HK1 hh)
        | (go_at_call 11; refine (awake_any _ (h1.alloc _)).mono ?_; rintro e v3 ⟨rfl, hb4⟩; have hb5 : Below w.heap.size w v3 := (hb1.alloc hs1 _).trans (hb4.mono (by simp; omega)); clear hb4))
      all_goals (go_ret; exact ⟨rfl, hb5⟩)
    · have hm1 : (m == 1) = false := by simp [hm]
      have hm2 : (m - 1) * 4096 < D + 1 := by rcases HQ.out with h | h; exact absurd h hm; exact h
      clear hm
      go_enter Tryd.func6, Tryd.ntmps6
      simp only [List.append]
      go_wp2_with (first
        | (go_at_call 9; refine (Calls.mono (HK1.out _ hh) ?_); rintro e v1 ⟨rfl, hb1⟩; have h1 := hh.below hb1; have hs1 := hb1.size; simp only [Pl.v]; clear HK1 hh)
        | (go_at_call 11; refine (awake_any _ (h1.alloc _)).mono ?_; rintro e v3 ⟨rfl, hb4⟩; have hb5 : Below w.heap.size w v3 := (hb1.alloc hs1 _).trans (hb4.mono (by simp; omega)); clear hb4))
      all_goals (go_ret; exact ⟨rfl, hb5⟩)
  · have HK1 : Hid (∀ w', Hol w' → _) := K1
    clear K1 HO
    have hcc : (c != 0) = true := by simp [hc]
    have HC : Hid (¬ c = 0) := hc
    clear hc
    obtain ⟨p1, p2, p3, p4, p5, p6, p7⟩ := p
    go_enter Tryd.func6, Tryd.ntmps6
    go_wp2_with (first
      | (go_at_call 9; refine (Calls.mono (HK1.out _ hh) ?_); rintro e v1 ⟨rfl, hb1⟩; have h1 := hh.below hb1; have hs1 := hb1.size; simp only [Pl.v])
      | (go_at_call 11; refine (awake_any _ (h1.alloc _)).mono ?_; rintro e v3 ⟨rfl, hb4⟩; have hb5 : Below w.heap.size w v3 := (hb1.alloc hs1 _).trans (hb4.mono (by simp; omega)); clear hb4))
    go_ret
    exact ⟨rfl, hb5⟩
end Go.Proofs.YtbiniohacnaieaaDoor
