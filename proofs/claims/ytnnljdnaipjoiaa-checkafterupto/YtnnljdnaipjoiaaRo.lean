/- The document's rows, by lists, told by placedB. -/
import Derived.Test.YtnnljdnaipjoiaaFa
import Derived.BigQuiet
namespace Go.Proofs.Ytnnljdnaipjoiaa
set_option linter.unusedSimpArgs false
set_option linter.unusedVariables false
open Go.RowKit Go.MapKept
set_option maxHeartbeats 40000000 in
set_option maxRecDepth 100000 in
theorem rows_any (a : Option Addr) (cap : Nat) (ss : List Bs) (fr st nx : Int) (w : World) (hi : BIn w a ss) :
    Calls Try.prog 33 #[.int .i64 st, .int .i64 nx, .int .i64 fr, .slice a ss.length cap] w fun e w' => e = .returned (.bool (placedB (bsOf ss) fr st nx)) ∧ Below w.heap.size w w' := by
  have HBI : Hid (∀ y, Below w.heap.size w y → BIn y a ss) := fun y hb => hi.below hb
  have HFA : Hid (∀ i, i < ss.length → okAt (bsOf ss) fr st nx i = false → placedB (bsOf ss) fr st nx = false) := fun i hi' h => placed_no (by rw [bsOf_len]; exact hi') h
  have HTR : Hid ((∀ i, i < ss.length → okAt (bsOf ss) fr st nx i = true) → placedB (bsOf ss) fr st nx = true) := fun h => placed_all.2 (fun i hi' => h i (by rw [bsOf_len] at hi'; exact hi'))
  have hlen := hi.len
  unfold maxLen at hlen
  clear hi
  generalize placedB (bsOf ss) fr st nx = R at *
  go_enter Try.func33, Try.ntmps33
  go_wp2_with fail
  go_loopw [9] (fun i wr => ∃ (k : Nat), k ≤ ss.length ∧ i = .int .i64 k ∧ (∀ i, i < k → okAt (bsOf ss) fr st nx i = true) ∧ Below w.heap.size w wr) (fun i _ => ss.length - (intOf i).toNat)
  case atStart => exact ⟨0, by omega, rfl, fun i hi => by omega, Below.refl _ _⟩
  case round =>
    obtain ⟨k, hk, rfl, hall, hb⟩ := hrel
    have HAL : Hid (∀ i, i < k → okAt (bsOf ss) fr st nx i = true) := hall
    clear hall
    by_cases hlt : k < ss.length
    · have hltI : (k : Int) < (ss.length : Int) := by omega
      have hin := HBI.out wr hb
      obtain ⟨g, off, rfl, c0, c1, c2, c3, c4⟩ := hin.cells k hlt
      have hok := hin.ok k hlt
      have HOKA : Hid (okAt (bsOf ss) fr st nx k = (!(decide ((ss.getD k bsz).b.base < fr) && decide ((ss.getD k bsz).b.base + (ss.getD k bsz).b.span ≤ fr)) && decide ((ss.getD k bsz).b.base + (ss.getD k bsz).b.span ≤ nx) && decide (st < (ss.getD k bsz).b.base + (ss.getD k bsz).b.span) && (decide (k = 0) || (decide ((ss.getD (k - 1) bsz).b.base < (ss.getD k bsz).b.base) && decide ((ss.getD (k - 1) bsz).b.base + (ss.getD (k - 1) bsz).b.span ≤ (ss.getD k bsz).b.base))))) := by
        show _ = _
        unfold okAt
        rw [bsOf_get ss k hlt, bsOf_get ss (k - 1) (by omega)]
      have HNE : Hid (okAt (bsOf ss) fr st nx k = false → R = false) := HFA.out k hlt
      have HNX : Hid (okAt (bsOf ss) fr st nx k = true → ∀ i, i < k + 1 → okAt (bsOf ss) fr st nx i = true) := fun h i hi => by
        by_cases e : i = k
        · rw [e]; exact h
        · exact HAL.out i (by omega)
      have HPV : Hid (0 < k → BOk (ss.getD (k - 1) bsz).b ∧ wr.cell? ⟨g, off + (k - 1) * 5, none⟩ = some (.int .i64 (ss.getD (k - 1) bsz).b.base) ∧ wr.cell? ⟨g, off + (k - 1) * 5 + 1, none⟩ = some (.int .i64 (ss.getD (k - 1) bsz).b.span)) := fun h0 => by
        obtain ⟨g', off', e, d0, d1, d2, d3, d4⟩ := hin.cells (k - 1) (by omega)
        injection e with e
        injection e with e1 e2
        subst e1; subst e2
        exact ⟨hin.ok (k - 1) (by omega), d0, d1⟩
      clear c2 c3 c4 hin
      generalize (ss.getD k bsz).b = x at *
      generalize (ss.getD (k - 1) bsz).b = y at *
      obtain ⟨b0, b1, s0, s1, _⟩ := hok
      obtain ⟨xb, xs, xp, xq, xr⟩ := x
      obtain ⟨yb, ys, yp, yq, yr⟩ := y
      simp only at c0 c1 b0 b1 s0 s1 HOKA HPV
      have HBAD : Hid ((xb < fr ∧ xb + xs ≤ fr) ∨ (0 < k ∧ (xb < yb + ys ∨ xb ≤ yb)) ∨ nx < xb + xs ∨ xb + xs ≤ st → R = false) := fun h => HNE.out (Bool.eq_false_iff.2 (fun hh => by
        rw [HOKA.out] at hh
        simp only [Bool.and_eq_true, Bool.or_eq_true, Bool.not_eq_true', Bool.and_eq_false_iff, decide_eq_true_eq, decide_eq_false_iff_not] at hh
        obtain ⟨⟨⟨h1, h2⟩, h3⟩, h4⟩ := hh
        omega))
      have HGO : Hid (¬ (xb < fr ∧ xb + xs ≤ fr) ∧ ¬ (0 < k ∧ (xb < yb + ys ∨ xb ≤ yb)) ∧ ¬ nx < xb + xs ∧ ¬ xb + xs ≤ st → okAt (bsOf ss) fr st nx k = true) := fun h => by
        rw [HOKA.out]
        simp only [Bool.and_eq_true, Bool.or_eq_true, Bool.not_eq_true', Bool.and_eq_false_iff, decide_eq_true_eq, decide_eq_false_iff_not]
        refine ⟨⟨⟨?_, ?_⟩, ?_⟩, ?_⟩ <;> omega
      clear HOKA HNE HFA
      by_cases hk0 : 0 < k
      · obtain ⟨hbok, d0, d1⟩ := HPV.out hk0
        obtain ⟨yb0, yb1, ys0, ys1, _⟩ := hbok
        simp only at yb0 yb1 ys0 ys1
        obtain ⟨m, HMK⟩ : ∃ m, Hid (k = m + 1) := ⟨k - 1, show k = k - 1 + 1 by omega⟩
        rw [show k - 1 = m by have := HMK.out; omega] at d0 d1
        have hk1 : IntKind.i64.wrap ((k : Int) - 1) = (m : Int) := by have := HMK.out; rw [IntKind.wrap_i64]; omega
        have hkI : (0 : Int) < (k : Int) := by omega
        have hmlI : (m : Int) < (ss.length : Int) := by have := HMK.out; omega
        have hwx : IntKind.i64.wrap (xb + xs) = xb + xs := by rw [IntKind.wrap_i64]; omega
        have hwy : IntKind.i64.wrap (yb + ys) = yb + ys := by rw [IntKind.wrap_i64]; omega
        clear HPV
        by_cases hA : xb < fr
        · by_cases hB : xb + xs ≤ fr
          · skip
            have HR := HBAD.out (by omega)
            subst HR
            have z0 : decide (xb < fr) = true := decide_eq_true (by omega)
            have z1 : decide (xb + xs ≤ fr) = true := decide_eq_true (by omega)
            go_wp2_with fail
            go_quiet (fail)
            go_wp2_with fail
            simp only [List.append_eq, List.cons_append, List.nil_append]
            go_quiet (fail)
            go_wp2_with fail
            go_ret
            exact ⟨rfl, by first | exact hb | exact below_drewN hb _ | exact below_drewN (below_drewN hb _) _⟩
          · skip
            by_cases hC : xb < yb + ys
            · skip
              have HR := HBAD.out (by omega)
              subst HR
              have z0 : decide (xb < fr) = true := decide_eq_true (by omega)
              have z1 : decide (xb + xs ≤ fr) = false := decide_eq_false (by omega)
              have z2 : decide (xb < yb + ys) = true := decide_eq_true (by omega)
              go_wp2_with fail
              go_quiet (fail)
              go_wp2_with fail
              simp only [List.append_eq, List.cons_append, List.nil_append]
              go_quiet (fail)
              go_wp2_with fail
              go_ret
              exact ⟨rfl, by first | exact hb | exact below_drewN hb _ | exact below_drewN (below_drewN hb _) _⟩
            · by_cases hD : xb ≤ yb
              · skip
                have HR := HBAD.out (by omega)
                subst HR
                have z0 : decide (xb < fr) = true := decide_eq_true (by omega)
                have z1 : decide (xb + xs ≤ fr) = false := decide_eq_false (by omega)
                have z2 : decide (xb < yb + ys) = false := decide_eq_false (by omega)
                have z3 : decide (xb ≤ yb) = true := decide_eq_true (by omega)
                go_wp2_with fail
                go_quiet (fail)
                go_wp2_with fail
                simp only [List.append_eq, List.cons_append, List.nil_append]
                go_quiet (fail)
                go_wp2_with fail
                go_ret
                exact ⟨rfl, by first | exact hb | exact below_drewN hb _ | exact below_drewN (below_drewN hb _) _⟩
              · skip
                by_cases hE : nx < xb + xs
                · skip
                  have HR := HBAD.out (by omega)
                  subst HR
                  have z0 : decide (xb < fr) = true := decide_eq_true (by omega)
                  have z1 : decide (xb + xs ≤ fr) = false := decide_eq_false (by omega)
                  have z2 : decide (xb < yb + ys) = false := decide_eq_false (by omega)
                  have z3 : decide (xb ≤ yb) = false := decide_eq_false (by omega)
                  have z4 : decide (nx < xb + xs) = true := decide_eq_true (by omega)
                  go_wp2_with fail
                  go_quiet (fail)
                  go_wp2_with fail
                  simp only [List.append_eq, List.cons_append, List.nil_append]
                  go_quiet (fail)
                  go_wp2_with fail
                  go_ret
                  exact ⟨rfl, by first | exact hb | exact below_drewN hb _ | exact below_drewN (below_drewN hb _) _⟩
                · by_cases hF : xb + xs ≤ st
                  · skip
                    have HR := HBAD.out (by omega)
                    subst HR
                    have z0 : decide (xb < fr) = true := decide_eq_true (by omega)
                    have z1 : decide (xb + xs ≤ fr) = false := decide_eq_false (by omega)
                    have z2 : decide (xb < yb + ys) = false := decide_eq_false (by omega)
                    have z3 : decide (xb ≤ yb) = false := decide_eq_false (by omega)
                    have z4 : decide (nx < xb + xs) = false := decide_eq_false (by omega)
                    have z5 : decide (xb + xs ≤ st) = true := decide_eq_true (by omega)
                    go_wp2_with fail
                    go_quiet (fail)
                    go_wp2_with fail
                    simp only [List.append_eq, List.cons_append, List.nil_append]
                    go_quiet (fail)
                    go_wp2_with fail
                    go_ret
                    exact ⟨rfl, by first | exact hb | exact below_drewN hb _ | exact below_drewN (below_drewN hb _) _⟩
                  · skip
                    have HOK2 := HGO.out (by omega)
                    have z0 : decide (xb < fr) = true := decide_eq_true (by omega)
                    have z1 : decide (xb + xs ≤ fr) = false := decide_eq_false (by omega)
                    have z2 : decide (xb < yb + ys) = false := decide_eq_false (by omega)
                    have z3 : decide (xb ≤ yb) = false := decide_eq_false (by omega)
                    have z4 : decide (nx < xb + xs) = false := decide_eq_false (by omega)
                    have z5 : decide (xb + xs ≤ st) = false := decide_eq_false (by omega)
                    go_wp2_with fail
                    go_quiet (fail)
                    go_wp2_with fail
                    simp only [List.append_eq, List.cons_append, List.nil_append]
                    go_quiet (fail)
                    go_wp2_with fail
                    exact ⟨⟨k + 1, by omega, by go_num, HNX.out HOK2, by first | exact hb | exact below_drewN hb _ | exact below_drewN (below_drewN hb _) _⟩, by simp [intOf]; omega⟩
        · skip
          by_cases hC : xb < yb + ys
          · skip
            have HR := HBAD.out (by omega)
            subst HR
            have z0 : decide (xb < fr) = false := decide_eq_false (by omega)
            have z1 : decide (xb < yb + ys) = true := decide_eq_true (by omega)
            go_wp2_with fail
            go_quiet (fail)
            go_wp2_with fail
            simp only [List.append_eq, List.cons_append, List.nil_append]
            go_quiet (fail)
            go_wp2_with fail
            go_ret
            exact ⟨rfl, by first | exact hb | exact below_drewN hb _ | exact below_drewN (below_drewN hb _) _⟩
          · by_cases hD : xb ≤ yb
            · skip
              have HR := HBAD.out (by omega)
              subst HR
              have z0 : decide (xb < fr) = false := decide_eq_false (by omega)
              have z1 : decide (xb < yb + ys) = false := decide_eq_false (by omega)
              have z2 : decide (xb ≤ yb) = true := decide_eq_true (by omega)
              go_wp2_with fail
              go_quiet (fail)
              go_wp2_with fail
              simp only [List.append_eq, List.cons_append, List.nil_append]
              go_quiet (fail)
              go_wp2_with fail
              go_ret
              exact ⟨rfl, by first | exact hb | exact below_drewN hb _ | exact below_drewN (below_drewN hb _) _⟩
            · skip
              by_cases hE : nx < xb + xs
              · skip
                have HR := HBAD.out (by omega)
                subst HR
                have z0 : decide (xb < fr) = false := decide_eq_false (by omega)
                have z1 : decide (xb < yb + ys) = false := decide_eq_false (by omega)
                have z2 : decide (xb ≤ yb) = false := decide_eq_false (by omega)
                have z3 : decide (nx < xb + xs) = true := decide_eq_true (by omega)
                go_wp2_with fail
                go_quiet (fail)
                go_wp2_with fail
                simp only [List.append_eq, List.cons_append, List.nil_append]
                go_quiet (fail)
                go_wp2_with fail
                go_ret
                exact ⟨rfl, by first | exact hb | exact below_drewN hb _ | exact below_drewN (below_drewN hb _) _⟩
              · by_cases hF : xb + xs ≤ st
                · skip
                  have HR := HBAD.out (by omega)
                  subst HR
                  have z0 : decide (xb < fr) = false := decide_eq_false (by omega)
                  have z1 : decide (xb < yb + ys) = false := decide_eq_false (by omega)
                  have z2 : decide (xb ≤ yb) = false := decide_eq_false (by omega)
                  have z3 : decide (nx < xb + xs) = false := decide_eq_false (by omega)
                  have z4 : decide (xb + xs ≤ st) = true := decide_eq_true (by omega)
                  go_wp2_with fail
                  go_quiet (fail)
                  go_wp2_with fail
                  simp only [List.append_eq, List.cons_append, List.nil_append]
                  go_quiet (fail)
                  go_wp2_with fail
                  go_ret
                  exact ⟨rfl, by first | exact hb | exact below_drewN hb _ | exact below_drewN (below_drewN hb _) _⟩
                · skip
                  have HOK2 := HGO.out (by omega)
                  have z0 : decide (xb < fr) = false := decide_eq_false (by omega)
                  have z1 : decide (xb < yb + ys) = false := decide_eq_false (by omega)
                  have z2 : decide (xb ≤ yb) = false := decide_eq_false (by omega)
                  have z3 : decide (nx < xb + xs) = false := decide_eq_false (by omega)
                  have z4 : decide (xb + xs ≤ st) = false := decide_eq_false (by omega)
                  go_wp2_with fail
                  go_quiet (fail)
                  go_wp2_with fail
                  simp only [List.append_eq, List.cons_append, List.nil_append]
                  go_quiet (fail)
                  go_wp2_with fail
                  exact ⟨⟨k + 1, by omega, by go_num, HNX.out HOK2, by first | exact hb | exact below_drewN hb _ | exact below_drewN (below_drewN hb _) _⟩, by simp [intOf]; omega⟩

      · have hkd : decide (0 < (k : Int)) = false := decide_eq_false (by omega)
        clear HPV
        by_cases hA : xb < fr
        · by_cases hB : xb + xs ≤ fr
          · skip
            have HR := HBAD.out (by omega)
            subst HR
            have z0 : decide (xb < fr) = true := decide_eq_true (by omega)
            have z1 : decide (xb + xs ≤ fr) = true := decide_eq_true (by omega)
            go_wp2_with fail
            go_quiet (fail)
            go_wp2_with fail
            simp only [List.append_eq, List.cons_append, List.nil_append]
            go_quiet (fail)
            go_wp2_with fail
            go_ret
            exact ⟨rfl, by first | exact hb | exact below_drewN hb _ | exact below_drewN (below_drewN hb _) _⟩
          · skip
            by_cases hE : nx < xb + xs
            · skip
              have HR := HBAD.out (by omega)
              subst HR
              have z0 : decide (xb < fr) = true := decide_eq_true (by omega)
              have z1 : decide (xb + xs ≤ fr) = false := decide_eq_false (by omega)
              have z2 : decide (nx < xb + xs) = true := decide_eq_true (by omega)
              go_wp2_with fail
              go_quiet (fail)
              go_wp2_with fail
              simp only [List.append_eq, List.cons_append, List.nil_append]
              go_quiet (fail)
              go_wp2_with fail
              go_ret
              exact ⟨rfl, by first | exact hb | exact below_drewN hb _ | exact below_drewN (below_drewN hb _) _⟩
            · by_cases hF : xb + xs ≤ st
              · skip
                have HR := HBAD.out (by omega)
                subst HR
                have z0 : decide (xb < fr) = true := decide_eq_true (by omega)
                have z1 : decide (xb + xs ≤ fr) = false := decide_eq_false (by omega)
                have z2 : decide (nx < xb + xs) = false := decide_eq_false (by omega)
                have z3 : decide (xb + xs ≤ st) = true := decide_eq_true (by omega)
                go_wp2_with fail
                go_quiet (fail)
                go_wp2_with fail
                simp only [List.append_eq, List.cons_append, List.nil_append]
                go_quiet (fail)
                go_wp2_with fail
                go_ret
                exact ⟨rfl, by first | exact hb | exact below_drewN hb _ | exact below_drewN (below_drewN hb _) _⟩
              · skip
                have HOK2 := HGO.out (by omega)
                have z0 : decide (xb < fr) = true := decide_eq_true (by omega)
                have z1 : decide (xb + xs ≤ fr) = false := decide_eq_false (by omega)
                have z2 : decide (nx < xb + xs) = false := decide_eq_false (by omega)
                have z3 : decide (xb + xs ≤ st) = false := decide_eq_false (by omega)
                go_wp2_with fail
                go_quiet (fail)
                go_wp2_with fail
                simp only [List.append_eq, List.cons_append, List.nil_append]
                go_quiet (fail)
                go_wp2_with fail
                exact ⟨⟨k + 1, by omega, by go_num, HNX.out HOK2, by first | exact hb | exact below_drewN hb _ | exact below_drewN (below_drewN hb _) _⟩, by simp [intOf]; omega⟩
        · skip
          by_cases hE : nx < xb + xs
          · skip
            have HR := HBAD.out (by omega)
            subst HR
            have z0 : decide (xb < fr) = false := decide_eq_false (by omega)
            have z1 : decide (nx < xb + xs) = true := decide_eq_true (by omega)
            go_wp2_with fail
            go_quiet (fail)
            go_wp2_with fail
            simp only [List.append_eq, List.cons_append, List.nil_append]
            go_quiet (fail)
            go_wp2_with fail
            go_ret
            exact ⟨rfl, by first | exact hb | exact below_drewN hb _ | exact below_drewN (below_drewN hb _) _⟩
          · by_cases hF : xb + xs ≤ st
            · skip
              have HR := HBAD.out (by omega)
              subst HR
              have z0 : decide (xb < fr) = false := decide_eq_false (by omega)
              have z1 : decide (nx < xb + xs) = false := decide_eq_false (by omega)
              have z2 : decide (xb + xs ≤ st) = true := decide_eq_true (by omega)
              go_wp2_with fail
              go_quiet (fail)
              go_wp2_with fail
              simp only [List.append_eq, List.cons_append, List.nil_append]
              go_quiet (fail)
              go_wp2_with fail
              go_ret
              exact ⟨rfl, by first | exact hb | exact below_drewN hb _ | exact below_drewN (below_drewN hb _) _⟩
            · skip
              have HOK2 := HGO.out (by omega)
              have z0 : decide (xb < fr) = false := decide_eq_false (by omega)
              have z1 : decide (nx < xb + xs) = false := decide_eq_false (by omega)
              have z2 : decide (xb + xs ≤ st) = false := decide_eq_false (by omega)
              go_wp2_with fail
              go_quiet (fail)
              go_wp2_with fail
              simp only [List.append_eq, List.cons_append, List.nil_append]
              go_quiet (fail)
              go_wp2_with fail
              exact ⟨⟨k + 1, by omega, by go_num, HNX.out HOK2, by first | exact hb | exact below_drewN hb _ | exact below_drewN (below_drewN hb _) _⟩, by simp [intOf]; omega⟩

    · obtain rfl : k = ss.length := by omega
      have HE := HTR.out HAL.out
      subst HE
      go_wp2_with fail
      go_ret
      exact ⟨rfl, hb⟩
end Go.Proofs.Ytnnljdnaipjoiaa
