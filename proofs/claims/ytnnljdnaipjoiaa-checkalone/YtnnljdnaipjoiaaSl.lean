/- small: it answers, whatever it is told. -/
import Derived.Test.YtnnljdnaipjoiaaSm
namespace Go.Proofs.Ytnnljdnaipjoiaa
set_option linter.unusedSimpArgs false
set_option linter.unusedVariables false
open Go.RowKit
theorem six_cells' {y : World} {b : Nat} {v0 v1 v2 v3 v4 v5 : Value} {t : TypeId} (h : y.heap[b]? = some (.cells #[v0, v1, v2, v3, v4, v5] t (0, 0))) :
    y.cell? ⟨b, 0, none⟩ = some v0 ∧ y.cell? ⟨b, 1, none⟩ = some v1 ∧ y.cell? ⟨b, 2, none⟩ = some v2 ∧ y.cell? ⟨b, 3, none⟩ = some v3 ∧ y.cell? ⟨b, 4, none⟩ = some v4 ∧ y.cell? ⟨b, 5, none⟩ = some v5 :=
  ⟨cell_of_row _ _ 0 _ _ _ h, cell_of_row _ _ 1 _ _ _ h, cell_of_row _ _ 2 _ _ _ h, cell_of_row _ _ 3 _ _ _ h, cell_of_row _ _ 4 _ _ _ h, cell_of_row _ _ 5 _ _ _ h⟩
set_option maxHeartbeats 4000000 in
set_option maxRecDepth 100000 in
theorem small_any (a : Option Addr) (cap : Nat) (l : List Sp) (w : World) (hu : SsUp w a l) :
    Calls Try.prog 8 #[.slice a l.length cap] w fun e w' => IsB e ∧ Below w.heap.size w w' := by
  have hl := hu.len
  unfold maxLen at hl
  have HU : Hid (∀ y, Below w.heap.size w y → SsUp y a l) := fun y hb => hu.below hb
  have HN : Hid (∀ b, IsB (.returned (.bool b))) := IsB.mk'
  clear hu
  go_enter Try.func8, Try.ntmps8
  go_wp2_with fail
  go_loopw [3, 4] (fun n i wr => ∃ (k : Nat) (x : Int), k ≤ l.length ∧ i = .int .i64 k ∧ n = .int .i64 x ∧ Below w.heap.size w wr) (fun _ i _ => l.length - (intOf i).toNat)
  case atStart => exact ⟨0, 0, by omega, rfl, rfl, Below.refl _ _⟩
  case round =>
    obtain ⟨k, x, hk, rfl, rfl, hb⟩ := hrel
    have HB : Hid (Below w.heap.size w wr) := hb
    clear hb
    obtain ⟨W, hWr⟩ : ∃ W, W = wr := ⟨_, rfl⟩
    subst hWr
    by_cases hlt : k < l.length
    · have hltI : (k : Int) < (l.length : Int) := by omega
      obtain ⟨g, off, rfl, c0, c1, c2, c3, c4, c5⟩ := (HU.out W HB.out).cells k hlt
      have HUP : Hid (∀ y, Below w.heap.size w y → SpUp y (l.getD k spz)) := fun y hb => (HU.out y hb).each k hlt
      generalize l.getD k spz = s at *
      obtain ⟨tp, pt, st, nx, fr, ss, sa, sc⟩ := s
      simp only at c0 c1 c2 c3 c4 c5
      have hup := HUP.out W HB.out
      have htp := hup.t
      have hsl := hup.b.len
      simp only at htp hsl
      have hrt := reach_top
      unfold maxLen at hsl
      have htq : tp.size ≤ 140737488355328 := by omega
      clear hup htp hrt
      have HW0 : Hid (∀ y, Below (W.alloc (.cells #[.string tp, .int .i64 pt, .int .i64 st, .int .i64 nx, .int .i64 fr, .slice sa ss.length sc] 35)).heap.size (W.alloc (.cells #[.string tp, .int .i64 pt, .int .i64 st, .int .i64 nx, .int .i64 fr, .slice sa ss.length sc] 35)) y → y.cell? ⟨W.heap.size, 2, none⟩ = some (.int .i64 st) ∧ y.cell? ⟨W.heap.size, 3, none⟩ = some (.int .i64 nx) ∧ y.cell? ⟨W.heap.size, 4, none⟩ = some (.int .i64 fr) ∧ y.cell? ⟨W.heap.size, 5, none⟩ = some (.slice sa ss.length sc) ∧ Below w.heap.size w y) := fun y hb => by
        have h := six_cells' (heap_alloc_new W (.cells #[.string tp, .int .i64 pt, .int .i64 st, .int .i64 nx, .int .i64 fr, .slice sa ss.length sc] 35))
        have hf := fun {o : Nat} {v : Value} {c : Nat} (hc : (W.alloc (.cells #[.string tp, .int .i64 pt, .int .i64 st, .int .i64 nx, .int .i64 fr, .slice sa ss.length sc] 35)).cell? ⟨c, o, none⟩ = some v) => (hb.cell (World.block_lt_of_cell? _ _ hc)).trans hc
        have e0 : Below W.heap.size W (W.alloc (.cells #[.string tp, .int .i64 pt, .int .i64 st, .int .i64 nx, .int .i64 fr, .slice sa ss.length sc] 35)) := below_box _
        exact ⟨hf h.2.2.1, hf h.2.2.2.1, hf h.2.2.2.2.1, hf h.2.2.2.2.2, HB.out.trans ((e0.trans (hb.mono e0.size)).mono HB.out.size)⟩
      have hq0 : (0 : Int) ≤ (tp.size : Int) / 8 := by omega
      have hq1 : (tp.size : Int) / 8 ≤ 17592186044416 := by omega
      go_wp2
      go_loopw [3, 6] (fun n i wr => ∃ (k2 : Nat) (z : Int), k2 ≤ ss.length ∧ i = .int .i64 k2 ∧ n = .int .i64 z ∧ Below (W.alloc (.cells #[.string tp, .int .i64 pt, .int .i64 st, .int .i64 nx, .int .i64 fr, .slice sa ss.length sc] 35)).heap.size (W.alloc (.cells #[.string tp, .int .i64 pt, .int .i64 st, .int .i64 nx, .int .i64 fr, .slice sa ss.length sc] 35)) wr) (fun _ i _ => ss.length - (intOf i).toNat)
      case atStart => exact ⟨0, _, by omega, rfl, rfl, Below.refl _ _⟩
      case round =>
        obtain ⟨k2, z, hk2, rfl, rfl, hb⟩ := hrel
        have HB2 : Hid (Below (W.alloc (.cells #[.string tp, .int .i64 pt, .int .i64 st, .int .i64 nx, .int .i64 fr, .slice sa ss.length sc] 35)).heap.size (W.alloc (.cells #[.string tp, .int .i64 pt, .int .i64 st, .int .i64 nx, .int .i64 fr, .slice sa ss.length sc] 35)) wr) := hb
        obtain ⟨s2, s3, s4, s5, hbw⟩ := HW0.out wr hb
        clear hb
        obtain ⟨V, hV⟩ : ∃ V, V = wr := ⟨_, rfl⟩
        subst hV
        by_cases hgo : k2 < ss.length ∧ z ≤ 400
        · obtain ⟨hk2l, hz4⟩ := hgo
          have hk2I : (k2 : Int) < (ss.length : Int) := by omega
          have hbu := (HUP.out V hbw).b
          obtain ⟨gb, off2, rfl, d0, d1, d2, d3, d4⟩ := hbu.cells k2 hk2l
          have HRU : Hid (∀ y, Below w.heap.size w y → RsUp y (ss.getD k2 bsz).a (ss.getD k2 bsz).b.rs) := fun y hb => (HUP.out y hb).b.each k2 hk2l
          have hrl := (hbu.each k2 hk2l).len
          clear hbu
          generalize (ss.getD k2 bsz).b = b at *
          generalize (ss.getD k2 bsz).a = xa at *
          generalize (ss.getD k2 bsz).cap = xc at *
          obtain ⟨xb, xs, xp, xq, xr⟩ := b
          simp only at d0 d1 d2 d3 d4 hrl HRU
          unfold maxLen at hrl
          have HW2 : Hid (∀ y, Below (V.alloc (.cells #[.int .i64 xb, .int .i64 xs, .int .i64 xp, .int .i64 xq, .slice xa xr.length xc] 61)).heap.size (V.alloc (.cells #[.int .i64 xb, .int .i64 xs, .int .i64 xp, .int .i64 xq, .slice xa xr.length xc] 61)) y → y.cell? ⟨V.heap.size, 0, none⟩ = some (.int .i64 xb) ∧ y.cell? ⟨V.heap.size, 1, none⟩ = some (.int .i64 xs) ∧ y.cell? ⟨V.heap.size, 4, none⟩ = some (.slice xa xr.length xc) ∧ Below (W.alloc (.cells #[.string tp, .int .i64 pt, .int .i64 st, .int .i64 nx, .int .i64 fr, .slice (some ⟨gb, off2, none⟩) ss.length sc] 35)).heap.size (W.alloc (.cells #[.string tp, .int .i64 pt, .int .i64 st, .int .i64 nx, .int .i64 fr, .slice (some ⟨gb, off2, none⟩) ss.length sc] 35)) y ∧ Below w.heap.size w y) := fun y hb => by
            have h := five_cells (heap_alloc_new V (.cells #[.int .i64 xb, .int .i64 xs, .int .i64 xp, .int .i64 xq, .slice xa xr.length xc] 61))
            have hf := fun {o : Nat} {v : Value} {c : Nat} (hc : (V.alloc (.cells #[.int .i64 xb, .int .i64 xs, .int .i64 xp, .int .i64 xq, .slice xa xr.length xc] 61)).cell? ⟨c, o, none⟩ = some v) => (hb.cell (World.block_lt_of_cell? _ _ hc)).trans hc
            have e0 : Below V.heap.size V (V.alloc (.cells #[.int .i64 xb, .int .i64 xs, .int .i64 xp, .int .i64 xq, .slice xa xr.length xc] 61)) := below_box _
            have e1 := HB2.out.trans ((e0.trans (hb.mono e0.size)).mono HB2.out.size)
            exact ⟨hf h.1, hf h.2.1, hf h.2.2.2.2, e1, (HW0.out y e1).2.2.2.2⟩
          have hbF := (HW2.out _ (Below.refl _ _)).2.2.2.2
          have HBF : Hid (Below w.heap.size w (V.alloc (.cells #[.int .i64 xb, .int .i64 xs, .int .i64 xp, .int .i64 xq, .slice xa xr.length xc] 61))) := hbF
          have HSR : Hid (∀ y, Below w.heap.size w y → Calls Try.prog 24 #[.slice xa xr.length xc] y fun e w' => IsB e ∧ Below y.heap.size y w') := fun y hb => shortR_any xa xc xr y (HRU.out y hb)
          clear hbF
          by_cases g1 : xb < 0
          · go_wp2_with fail
            go_ret
            exact ⟨HN.out _, HBF.out⟩
          · have q1 : decide (xb < 0) = false := decide_eq_false g1
            by_cases g2 : 1125899906842624 < xb
            · go_wp2_with fail
              go_ret
              exact ⟨HN.out _, HBF.out⟩
            · have q2 : decide (1125899906842624 < xb) = false := decide_eq_false g2
              by_cases g3 : xs < 1
              · go_wp2_with fail
                go_ret
                exact ⟨HN.out _, HBF.out⟩
              · have q3 : decide (xs < 1) = false := decide_eq_false g3
                by_cases g4 : 100 < xs
                · go_wp2_with fail
                  go_ret
                  exact ⟨HN.out _, HBF.out⟩
                · have q4 : decide (100 < xs) = false := decide_eq_false g4
                  go_wp2_with (go_at_call 24; refine (HSR.out _ HBF.out).mono ?_; rintro e w3 ⟨⟨sb, rfl⟩, hb3⟩; have HB3 : Hid (Below (V.alloc (.cells #[.int .i64 xb, .int .i64 xs, .int .i64 xp, .int .i64 xq, .slice xa xr.length xc] 61)).heap.size (V.alloc (.cells #[.int .i64 xb, .int .i64 xs, .int .i64 xp, .int .i64 xq, .slice xa xr.length xc] 61)) w3) := (by exact ⟨hb3.os, hb3.tape, hb3.output, hb3.size, hb3.block⟩); clear hb3; cases sb)
                  · go_ret
                    exact ⟨HN.out _, (HW2.out _ HB3.out).2.2.2.2⟩
                  · go_loopw [8] (fun i wr => ∃ (j : Nat), j ≤ xr.length ∧ i = .int .i64 j ∧ Below (V.alloc (.cells #[.int .i64 xb, .int .i64 xs, .int .i64 xp, .int .i64 xq, .slice xa xr.length xc] 61)).heap.size (V.alloc (.cells #[.int .i64 xb, .int .i64 xs, .int .i64 xp, .int .i64 xq, .slice xa xr.length xc] 61)) wr) (fun i _ => xr.length - (intOf i).toNat)
                    case atStart => exact ⟨0, by omega, rfl, HB3.out⟩
                    case round =>
                      obtain ⟨j, hj, rfl, hb⟩ := hrel
                      have HB4 : Hid (Below (V.alloc (.cells #[.int .i64 xb, .int .i64 xs, .int .i64 xp, .int .i64 xq, .slice xa xr.length xc] 61)).heap.size (V.alloc (.cells #[.int .i64 xb, .int .i64 xs, .int .i64 xp, .int .i64 xq, .slice xa xr.length xc] 61)) wr) := hb
                      obtain ⟨t0, t1, t4, hbz, hbw4⟩ := HW2.out wr hb
                      have HZ : Hid (Below w.heap.size w wr) := hbw4
                      have HZ0 : Hid (Below (W.alloc (.cells #[.string tp, .int .i64 pt, .int .i64 st, .int .i64 nx, .int .i64 fr, .slice (some ⟨gb, off2, none⟩) ss.length sc] 35)).heap.size (W.alloc (.cells #[.string tp, .int .i64 pt, .int .i64 st, .int .i64 nx, .int .i64 fr, .slice (some ⟨gb, off2, none⟩) ss.length sc] 35)) wr) := hbz
                      clear hb
                      by_cases hjl : j < xr.length
                      · have hjI : (j : Int) < (xr.length : Int) := by omega
                        obtain ⟨g3', off3, rfl, z0, z1, z2, z3, z4, z5⟩ := (HRU.out wr hbw4).row j hjl
                        generalize xr.getD j rz = r at *
                        obtain ⟨r0, r1, r2, r3, r4, r5⟩ := r
                        simp only at z0 z1 z2 z3 z4 z5
                        clear hbz hbw4
                        by_cases p1 : r5 < 0
                        · have pd : decide (r5 < 0) = true := decide_eq_true p1
                          go_wp2
                          go_quiet (fail)
                          go_wp2
                          go_ret
                          exact ⟨HN.out _, below_drewN HZ.out _⟩
                        · have pd : decide (r5 < 0) = false := decide_eq_false p1
                          by_cases p2 : xs ≤ r5
                          · have pe : decide (xs ≤ r5) = true := decide_eq_true p2
                            go_wp2
                            go_quiet (fail)
                            go_wp2
                            go_ret
                            exact ⟨HN.out _, below_drewN HZ.out _⟩
                          · have pe : decide (xs ≤ r5) = false := decide_eq_false p2
                            go_wp2
                            go_quiet (fail)
                            go_wp2
                            exact ⟨⟨j + 1, by omega, by go_num, below_drewN HB4.out _⟩, by simp [intOf]; omega⟩
                      · obtain rfl : j = xr.length := by omega
                        go_wp2
                        exact ⟨⟨k2 + 1, _, by omega, by go_num, rfl, HZ0.out⟩, by simp [intOf]; omega⟩
        · have HZ : Hid (Below w.heap.size w V) := hbw
          clear hbw
          have hkd : ¬ (k2 < ss.length ∧ z ≤ 400) := hgo
          by_cases hk3 : k2 < ss.length
          · have hz4 : ¬ z ≤ 400 := fun c => hgo ⟨hk3, c⟩
            have hzd : decide (z ≤ 400) = false := decide_eq_false hz4
            have hk3I : (k2 : Int) < (ss.length : Int) := by omega
            clear hkd hgo
            by_cases r1 : st < 0
            · go_wp2_with fail
              go_ret
              exact ⟨HN.out _, HZ.out⟩
            · have rd1 : decide (st < 0) = false := decide_eq_false r1
              by_cases r2 : 1152921504606846976 < st
              · go_wp2_with fail
                go_ret
                exact ⟨HN.out _, HZ.out⟩
              · have rd2 : decide (1152921504606846976 < st) = false := decide_eq_false r2
                by_cases r3 : nx < 0
                · go_wp2_with fail
                  go_ret
                  exact ⟨HN.out _, HZ.out⟩
                · have rd3 : decide (nx < 0) = false := decide_eq_false r3
                  by_cases r4 : 1152921504606846976 < nx
                  · go_wp2_with fail
                    go_ret
                    exact ⟨HN.out _, HZ.out⟩
                  · have rd4 : decide (1152921504606846976 < nx) = false := decide_eq_false r4
                    by_cases r5 : fr < 0
                    · go_wp2_with fail
                      go_ret
                      exact ⟨HN.out _, HZ.out⟩
                    · have rd5 : decide (fr < 0) = false := decide_eq_false r5
                      by_cases r6 : 1152921504606846976 < fr
                      · go_wp2_with fail
                        go_ret
                        exact ⟨HN.out _, HZ.out⟩
                      · have rd6 : decide (1152921504606846976 < fr) = false := decide_eq_false r6
                        go_wp2
                        exact ⟨⟨k + 1, z, by omega, by go_num, rfl, HZ.out⟩, by simp [intOf]; omega⟩
          · have hk3I : ¬ (k2 : Int) < (ss.length : Int) := by omega
            have hk3d : decide ((k2 : Int) < (ss.length : Int)) = false := decide_eq_false hk3I
            clear hkd hgo
            by_cases r1 : st < 0
            · go_wp2_with fail
              go_ret
              exact ⟨HN.out _, HZ.out⟩
            · have rd1 : decide (st < 0) = false := decide_eq_false r1
              by_cases r2 : 1152921504606846976 < st
              · go_wp2_with fail
                go_ret
                exact ⟨HN.out _, HZ.out⟩
              · have rd2 : decide (1152921504606846976 < st) = false := decide_eq_false r2
                by_cases r3 : nx < 0
                · go_wp2_with fail
                  go_ret
                  exact ⟨HN.out _, HZ.out⟩
                · have rd3 : decide (nx < 0) = false := decide_eq_false r3
                  by_cases r4 : 1152921504606846976 < nx
                  · go_wp2_with fail
                    go_ret
                    exact ⟨HN.out _, HZ.out⟩
                  · have rd4 : decide (1152921504606846976 < nx) = false := decide_eq_false r4
                    by_cases r5 : fr < 0
                    · go_wp2_with fail
                      go_ret
                      exact ⟨HN.out _, HZ.out⟩
                    · have rd5 : decide (fr < 0) = false := decide_eq_false r5
                      by_cases r6 : 1152921504606846976 < fr
                      · go_wp2_with fail
                        go_ret
                        exact ⟨HN.out _, HZ.out⟩
                      · have rd6 : decide (1152921504606846976 < fr) = false := decide_eq_false r6
                        go_wp2
                        exact ⟨⟨k + 1, z, by omega, by go_num, rfl, HZ.out⟩, by simp [intOf]; omega⟩
    · obtain rfl : k = l.length := by omega
      by_cases hx : x ≤ 400
      · have hB := HB.out
        go_wp2_with fail
        go_ret
        exact ⟨HN.out _, hB⟩
      · have hB := HB.out
        go_wp2_with fail
        go_ret
        exact ⟨HN.out _, hB⟩
end Go.Proofs.Ytnnljdnaipjoiaa
