/- Format. -/
import Derived.Test.YtohncckmennfbaaDoorJw
namespace Go.Proofs.YtohncckmennfbaaDoor
set_option linter.unusedSimpArgs false
set_option linter.unusedVariables false
open Go.RowKit Go.MapKept Go.Proofs
theorem format_small {w : World} {dp : Nat} {F : List Nat} {d : Dv} (h : Dev w dp F d) (hn : d.n < 246) : Calls Tryd.prog 28 #[.pointer (some ⟨dp, 0, none⟩)] w fun e w' => e = .returned (.int .i64 1) ∧ w' = w := by
  have hd : decide (d.n < 246) = true := decide_eq_true hn
  go_enter Tryd.func28, Tryd.ntmps28
  go_wp2_with (go_at_call 36; refine (jsmall_any h).mono ?_; rintro e w1 ⟨rfl, hw⟩; subst w1; rw [hd])
  go_ret
  exact ⟨rfl, rfl⟩
def formatted (d : Dv) : Dv := (d.tick.add 0 (tabL [])).tick.flush
theorem formatted_rest {d : Dv} (h : ∀ k, d.pend k = []) (hn : 246 ≤ d.n) : Rest (formatted d) [] d.base := by
  refine ⟨⟨hn, GoodT.nil _, ?_, rfl, fun k h1 h2 => ⟨?_, rfl⟩⟩, fun _ => rfl⟩
  · show (d.tick.add 0 (tabL [])).cur 0 = _
    rw [cur_add, if_pos rfl]
  · show (d.tick.add 0 (tabL [])).cur (find [] k) = _
    rw [cur_add, show find [] k = k from rfl, if_neg (by omega)]
    exact cur_none (h k)
theorem on_uncut {d : Dv} (h : d.cut = false) : d.on = true := by simp [Dv.on, h]
set_option maxRecDepth 100000 in
theorem format_ok {B : Nat} {E : List Nat} {w1 w : World} {dp : Nat} {d : Dv} (hF : Fr B E w1 w) (hD : DP B E w dp d) (hn : 246 ≤ d.n) (hc : d.cut = false) (ho : d.ops + 2 ≤ 1000000) :
    Calls Tryd.prog 28 #[.pointer (some ⟨dp, 0, none⟩)] w fun e w' => e = .returned (.int .i64 0) ∧ Fr B E w1 w' ∧ DP B E w' dp (formatted d) := by
  obtain ⟨f1, f2, f3, f4, f5⟩ := wtW_facts w dp none
  have hEw := hF.ltw
  have hBw : B ≤ w.heap.size := Nat.le_trans hF.big hF.size
  have hF2 : Fr B (w.heap.size :: (w.heap.size + 1) :: (w.heap.size + 2) :: E) (wtW w dp none) (wtW w dp none) :=
    Fr.start (fun x hx => by
      rw [f2]
      simp only [List.mem_cons] at hx
      rcases hx with rfl | rfl | rfl | hx
      all_goals first | omega | (have := hEw x hx; omega)) (by rw [f2]; omega) hF.pos (hF.below f1).tab
  have hD2 : DP B (w.heap.size :: (w.heap.size + 1) :: (w.heap.size + 2) :: E) (wtW w dp none) dp d :=
    (hD.ext (fun x hx => by
      simp only [List.mem_cons] at hx ⊢
      rcases hx with rfl | rfl | rfl | hx
      · exact .inr (Nat.le_refl _)
      · exact .inr (by omega)
      · exact .inr (by omega)
      · exact .inl hx)).below f1
  have h0 : 0 < d.n := by omega
  have hch : Chain (Fr B (w.heap.size :: (w.heap.size + 1) :: (w.heap.size + 2) :: E) (wtW w dp none)) (fun _ => False)
      [.func (.func 69) #[] #[.pointer (some ⟨w.heap.size, 0, none⟩), .pointer (some ⟨w.heap.size + 1, 0, none⟩)], .func (.func 39) #[.pointer (some ⟨dp, 0, none⟩)] #[]]
      (fun w' => DP B (w.heap.size :: (w.heap.size + 1) :: (w.heap.size + 2) :: E) w' dp d) (fun w' => DP B (w.heap.size :: (w.heap.size + 1) :: (w.heap.size + 2) :: E) w' dp (formatted d)) := by
    refine .cons (Q := fun w' => DP B (w.heap.size :: (w.heap.size + 1) :: (w.heap.size + 2) :: E) w' dp (d.tick.add 0 (tabL []))) ⟨69, _, _, rfl, enters68, fun w' hF' hP => ?_⟩ (.cons (Q := fun w' => DP B (w.heap.size :: (w.heap.size + 1) :: (w.heap.size + 2) :: E) w' dp (formatted d)) ⟨39, _, _, rfl, enters34, fun w' hF' hP => ?_⟩ (.nil fun _ _ h => h))
    · obtain ⟨F, hd, hFP⟩ := hP
      refine (wt1_any hd ((hF'.box (by simp)).trans f3) ((hF'.box (by simp)).trans f4) ⟨none, rfl⟩ (.inl ⟨rfl, rfl⟩) hF'.tab (by omega)).mono ?_
      rintro e w'' ⟨rfl, F', hd', hk, hg⟩
      obtain ⟨g1, g2⟩ := DP.step hF' hFP hd' hk hg
      have hon := on_uncut hc
      rw [show (0 : Int) = ((0 : Nat) : Int) from rfl, wrote_on hon h0 (tabL_len _)] at g2
      exact ⟨_, rfl, .inl ⟨by rw [show (0 : Int) = ((0 : Nat) : Int) from rfl, wcode_on hon h0]; rfl, g1, g2⟩⟩
    · obtain ⟨F, hd, hFP⟩ := hP
      refine (flushD hd (by show d.ops + 1 < _; omega)).mono ?_
      rintro e w'' ⟨rfl, F', hd', hk, hg⟩
      obtain ⟨g1, g2⟩ := DP.step hF' hFP hd' hk hg
      have hon : (d.tick.add 0 (tabL [])).on = true := on_uncut hc
      rw [flushed_on hon] at g2
      exact ⟨_, rfl, .inl ⟨by simp [hon], g1, g2⟩⟩
  have hin := inTurn_any _ _ _ _ _ (w.heap.size + 2) 2 (fun w' h i v hv => by
    rw [h.box (by simp), f5 i]
    simpa [wtV] using hv) (by simp) hch _ hF2 hD2
  have HI : Hid _ := hin
  have HW := wtable_any dp none w
  obtain ⟨F, hd, hFP⟩ := id hD
  have hsm : decide (d.n < 246) = false := decide_eq_false (by omega)
  clear hch hin
  go_enter Tryd.func28, Tryd.ntmps28
  go_wp2_with (first
    | (go_at_call 36; refine (jsmall_any hd).mono ?_; rintro e w1 ⟨rfl, hw⟩; subst w1; rw [hsm])
    | (go_at_call 48; refine HW.mono ?_; rintro e w2 ⟨rfl, rfl⟩))
  refine Calls.mono HI.out ?_
  rintro e w3 ⟨c, rfl, hcc⟩
  rcases hcc with ⟨rfl, g1, g2⟩ | ⟨_, q⟩
  · have hFr3 : Fr B E w1 w3 := (hF.below f1).trans g1 (by simp; intro x hx; simp [hx])
    have hjl : DP B E w3 dp (formatted d) := g2.ext (fun x hx => .inl (by simp [hx]))
    go_wp2
    go_ret
    exact ⟨rfl, hFr3, hjl⟩
  · exact q.elim
end Go.Proofs.YtohncckmennfbaaDoor
