/- The walk of LayoutGrows: true for every argument. -/
import Derived.Test.YtbiniohacnaieaaDoorOk
namespace Go.Proofs.YtbiniohacnaieaaDoor
set_option linter.unusedSimpArgs false
set_option linter.unusedVariables false
open Go.RowKit
theorem mapN_mono (c d : Int) (h : c ≤ d) : c - mapN c ≤ d - mapN d := by unfold mapN; split <;> split <;> omega
theorem mk_dc (n i : Int) (h : mkE n i = 0) : (mkP n i).dc = (n - 247 - tabN i) - mapN (n - 247 - tabN i) := by
  unfold mkP; rw [if_pos h]; show n - dataN n i = _; unfold dataN; omega
theorem mk_zero (n i : Int) : mkE n i = 0 ↔ mkOk n i ∧ 1 ≤ (n - 247 - tabN i) - mapN (n - 247 - tabN i) := by
  unfold mkE dataN
  by_cases ho : mkOk n i
  · rw [if_pos ho]
    split
    · constructor
      · intro h; omega
      · intro h; omega
    · exact ⟨fun _ => ⟨ho, by omega⟩, fun _ => rfl⟩
  · rw [if_neg ho]
    exact ⟨fun h => by omega, fun h => absurd h.1 ho⟩
theorem grows_dc (n i k : Int) (hk : 0 ≤ k) (h1 : mkE n i = 0) (h2 : mkE (n + k) i = 0) : (mkP n i).dc ≤ (mkP (n + k) i).dc := by
  rw [mk_dc _ _ h1, mk_dc _ _ h2]
  exact mapN_mono _ _ (by omega)
theorem more_dc (n i k : Int) (hk : 0 ≤ k) (h1 : mkE n i = 0) (h2 : mkE n (i + k) = 0) : (mkP n (i + k)).dc ≤ (mkP n i).dc := by
  rw [mk_dc _ _ h1, mk_dc _ _ h2]
  refine mapN_mono _ _ ?_
  unfold tabN; omega
theorem grows_ok (n i k : Int) (hk : 0 ≤ k) (h1 : mkE n i = 0) (h2 : n + k ≤ 65536) : mkE (n + k) i = 0 := by
  rw [mk_zero] at h1 ⊢
  obtain ⟨⟨a, b, c, d⟩, h⟩ := h1
  refine ⟨⟨by omega, by omega, c, d⟩, ?_⟩
  have := mapN_mono (n - 247 - tabN i) (n + k - 247 - tabN i) (by omega)
  omega
set_option maxRecDepth 100000 in
set_option maxHeartbeats 1000000 in
theorem grows_in (n i k r : Int) (w : World) (hh : Hol w) (h1 : 0 ≤ k) (h2 : k ≤ 70000) (h3 : 0 ≤ n) (h4 : n ≤ 70000) (h5 : 1 ≤ i) (h6 : i ≤ 5000) (HR : Hid (Int.tmod k 200 = r)) (r1 : 0 ≤ r) (r2 : r ≤ 199)
    (p q s : Pl) (e f g : Int) (K1 : Hid (∀ w', Hol w' → Calls Tryd.prog 9 #[.int .i64 n, .int .i64 i] w' fun x w2 => x = .returned (.tuple #[p.v, .int .i64 e]) ∧ Below w'.heap.size w' w2))
    (K2 : Hid (∀ w', Hol w' → Calls Tryd.prog 9 #[.int .i64 (n + k), .int .i64 i] w' fun x w2 => x = .returned (.tuple #[q.v, .int .i64 f]) ∧ Below w'.heap.size w' w2))
    (K3 : Hid (∀ w', Hol w' → Calls Tryd.prog 9 #[.int .i64 n, .int .i64 (i + r)] w' fun x w2 => x = .returned (.tuple #[s.v, .int .i64 g]) ∧ Below w'.heap.size w' w2))
    (q1 : e = 0 → f = 0 → p.dc ≤ q.dc) (q2 : e = 0 → g = 0 → s.dc ≤ p.dc) (q3 : e = 0 → n + k ≤ 65536 → f = 0) :
    Calls Tryd.prog 7 #[.int .i64 n, .int .i64 i, .int .i64 k] w fun e w' => e = .returned (.bool true) ∧ Below w.heap.size w w' := by
  have g1 : ¬ k < 0 := by omega
  have g2 : ¬ 70000 < k := by omega
  have g3 : ¬ n < 0 := by omega
  have g4 : ¬ 70000 < n := by omega
  have g5 : ¬ i < 1 := by omega
  have g6 : ¬ 5000 < i := by omega
  have hr := HR.out
  have Q1 : Hid _ := q1
  have Q2 : Hid _ := q2
  have Q3 : Hid _ := q3
  clear q1 q2 q3
  obtain ⟨p1, p2, p3, p4, p5, p6, p7⟩ := p
  obtain ⟨s1, s2, s3, s4, s5, s6, s7⟩ := s
  obtain ⟨t1, t2, t3, t4, t5, t6, t7⟩ := q
  have tok1 : True := trivial
  have tok2 : True := trivial
  go_enter Tryd.func7, Tryd.ntmps7
  go_wp2_with (first
    | (go_at_call 9; have _t := tok1; refine (Calls.mono (K1.out _ hh) ?_); clear tok1 _t; rintro x v1 ⟨rfl, hb1⟩; have hs1 := hb1.size; have d1 := hh.below hb1; simp only [Pl.v])
    | (go_at_call 9; have _t := tok2; refine (Calls.mono (K2.out _ (d1.alloc _)) ?_); clear tok2 _t; rintro x v2 ⟨rfl, hb2⟩; have hs2 : v1.heap.size < v2.heap.size := ((box_new v1 ⟨p1, p2, p3, p4, p5, p6, p7⟩).below hb2).lt; have x1 := ((box_new v1 ⟨p1, p2, p3, p4, p5, p6, p7⟩).below hb2); have d2 := (d1.alloc _).below hb2; have hb3 : Below w.heap.size w v2 := (hb1.alloc hs1 _).trans (hb2.mono (by simp; omega)); clear hb2; simp only [Pl.v])
    | (go_at_call 9; refine (Calls.mono (K3.out _ (d2.alloc _)) ?_); rintro x v3 ⟨rfl, hb4⟩; have hs3 : v2.heap.size < v3.heap.size := ((box_new v2 ⟨t1, t2, t3, t4, t5, t6, t7⟩).below hb4).lt; have x2 := ((box_new v2 ⟨t1, t2, t3, t4, t5, t6, t7⟩).below hb4).c6; have x3 := ((x1.below ((Below.refl _ _).alloc (Nat.le_refl _) _)).below hb4).c6; have d3 := (d2.alloc _).below hb4; have hb5 : Below w.heap.size w v3 := (hb3.alloc hb3.size _).trans (hb4.mono (by simp; omega)); have n1 : ¬ v3.heap.size = v2.heap.size := (by omega); have n2 : ¬ v3.heap.size = v1.heap.size := (by omega); have hs4 : v1.heap.size < v3.heap.size := (by omega); clear hb4 x1; simp only [Pl.v])
    | (go_at_call 11; refine (awake_any _ (d3.alloc _)).mono ?_; rintro x v4 ⟨rfl, hb6⟩; have hb7 : Below w.heap.size w v4 := (hb5.alloc hb5.size _).trans (hb6.mono (by simp; omega)); clear hb6))
  all_goals
    first
    | (go_ret; exact ⟨rfl, hb7⟩)
    | (exfalso; have A := Q1.out; have B := Q2.out; have C := Q3.out; omega)
set_option maxRecDepth 100000 in
theorem layoutGrows_walk (a0 : Int) (a1 : Int) (a2 : Int) (w : World) (hh : Hol w) (w0 : (Lit.int .i64 a0).wf = true) (w1 : (Lit.int .i64 a1).wf = true) (w2 : (Lit.int .i64 a2).wf = true) :
    Calls Tryd.prog 7 #[.int .i64 a0, .int .i64 a1, .int .i64 a2] w fun e w' => e = .returned (.bool true) ∧ Below w.heap.size w w' := by
  clear w0 w1 w2
  by_cases h1 : a2 < 0
  · go_enter Tryd.func7, Tryd.ntmps7
    go_wp2_with (go_at_call 11; refine (awake_any _ hh).mono ?_; rintro x v4 ⟨rfl, hb6⟩)
    go_ret
    exact ⟨rfl, hb6⟩
  by_cases h2 : 70000 < a2
  · go_enter Tryd.func7, Tryd.ntmps7
    go_wp2_with (go_at_call 11; refine (awake_any _ hh).mono ?_; rintro x v4 ⟨rfl, hb6⟩)
    go_ret
    exact ⟨rfl, hb6⟩
  by_cases h3 : a0 < 0
  · go_enter Tryd.func7, Tryd.ntmps7
    go_wp2_with (go_at_call 11; refine (awake_any _ hh).mono ?_; rintro x v4 ⟨rfl, hb6⟩)
    go_ret
    exact ⟨rfl, hb6⟩
  by_cases h4 : 70000 < a0
  · go_enter Tryd.func7, Tryd.ntmps7
    go_wp2_with (go_at_call 11; refine (awake_any _ hh).mono ?_; rintro x v4 ⟨rfl, hb6⟩)
    go_ret
    exact ⟨rfl, hb6⟩
  by_cases h5 : a1 < 1
  · go_enter Tryd.func7, Tryd.ntmps7
    go_wp2_with (go_at_call 11; refine (awake_any _ hh).mono ?_; rintro x v4 ⟨rfl, hb6⟩)
    go_ret
    exact ⟨rfl, hb6⟩
  by_cases h6 : 5000 < a1
  · go_enter Tryd.func7, Tryd.ntmps7
    go_wp2_with (go_at_call 11; refine (awake_any _ hh).mono ?_; rintro x v4 ⟨rfl, hb6⟩)
    go_ret
    exact ⟨rfl, hb6⟩
  have hr : Int.tmod a2 200 = a2 % 200 := Int.tmod_eq_emod_of_nonneg (by omega)
  exact grows_in a0 a1 a2 (a2 % 200) w hh (by omega) (by omega) (by omega) (by omega) (by omega) (by omega) hr (by omega) (by omega) _ _ _ _ _ _
    (make_any a0 a1) (make_any (a0 + a2) a1) (make_any a0 (a1 + a2 % 200))
    (grows_dc a0 a1 a2 (by omega)) (more_dc a0 a1 (a2 % 200) (by omega)) (grows_ok a0 a1 a2 (by omega))
end Go.Proofs.YtbiniohacnaieaaDoor
