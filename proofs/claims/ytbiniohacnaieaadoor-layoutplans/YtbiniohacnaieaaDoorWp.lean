/- The walk of LayoutPlans: true for every argument. -/
import Derived.Test.YtbiniohacnaieaaDoorMr
namespace Go.Proofs.YtbiniohacnaieaaDoor
set_option linter.unusedSimpArgs false
set_option linter.unusedVariables false
open Go.RowKit
set_option maxRecDepth 100000 in
theorem layoutPlans_walk (a0 : Int) (a1 : Int) (w : World) (hh : Hol w) (w0 : (Lit.int .i64 a0).wf = true) (w1 : (Lit.int .i64 a1).wf = true) :
    Calls Tryd.prog 3 #[.int .i64 a0, .int .i64 a1] w fun e w' => e = .returned (.bool true) ∧ Below w.heap.size w w' := by
  clear w0 w1
  have K1 := make_any a0 a1
  have K2 := rmake_any a0 a1
  generalize mkP a0 a1 = p at *
  generalize mkE a0 a1 = c at *
  obtain ⟨p1, p2, p3, p4, p5, p6, p7⟩ := p
  have HK1 : Hid (∀ w', Hol w' → _) := K1
  have HK2 : Hid _ := K2
  clear K1 K2
  have e1 := eqI p1
  have e2 := eqI p2
  have e3 := eqI p3
  have e4 := eqI p4
  have e5 := eqI p5
  have e6 := eqI p6
  have e7 := eqI p7
  have ec := eqI c
  go_enter Tryd.func3, Tryd.ntmps3
  go_wp2_with (first
    | (go_at_call 9; refine (Calls.mono (HK1.out _ hh) ?_); rintro e v1 ⟨rfl, hb1⟩; have h1 := hh.below hb1; have hs1 := hb1.size; simp only [Pl.v])
    | (go_at_call 10; refine (Calls.mono (HK2.out _) ?_); rintro e v2 ⟨rfl, hb2⟩; have hB := (box_new v1 ⟨p1, p2, p3, p4, p5, p6, p7⟩).below hb2; have hs2 : v1.heap.size < v2.heap.size := hB.lt; have hne : ¬ v2.heap.size = v1.heap.size := (by omega); obtain ⟨c0, c1, c2, c3, c4, c5, c6⟩ := hB; have h2 := (h1.alloc _).below hb2; have hb3 : Below w.heap.size w v2 := (hb1.alloc hs1 _).trans (hb2.mono (by simp; omega)); clear hb2; simp only [Pl.v])
    | (go_at_call 11; refine (awake_any _ (h2.alloc _)).mono ?_; rintro e v3 ⟨rfl, hb4⟩; have hb5 : Below w.heap.size w v3 := (hb3.alloc hb3.size _).trans (hb4.mono (by simp; omega)); clear hb4))
  go_ret
  exact ⟨rfl, hb5⟩
end Go.Proofs.YtbiniohacnaieaaDoor
