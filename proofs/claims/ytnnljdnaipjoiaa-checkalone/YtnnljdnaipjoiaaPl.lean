/- placed. -/
import Derived.Test.YtnnljdnaipjoiaaFa
namespace Go.Proofs.Ytnnljdnaipjoiaa
set_option linter.unusedSimpArgs false
set_option linter.unusedVariables false
open Go.RowKit Go.MapKept
set_option maxHeartbeats 1600000 in
set_option maxRecDepth 100000 in
theorem placed_any (a : Option Addr) (cap : Nat) (ss : List Bs) (fr st nx : Int) (w : World) (hi : BIn w a ss) (hfr : In64 fr) (hst : In64 st) (hnx : In64 nx) :
    Calls Try.prog 27 #[.slice a ss.length cap, .int .i64 fr, vB (st, nx)] w fun e w' => e = .returned (.bool (placedB (bsOf ss) fr st nx)) ∧ Below w.heap.size w w' := by
  have HBI : Hid (∀ y, Below w.heap.size w y → BIn y a ss) := fun y hb => hi.below hb
  have hbx := two_cells (heap_alloc_new w (.cells #[.int .i64 st, .int .i64 nx] 71))
  have HB0 : Hid (Below w.heap.size w (w.alloc (.cells #[.int .i64 st, .int .i64 nx] 71))) := below_box _
  have HCX : Hid (∀ y, Below (w.heap.size + 1) (w.alloc (.cells #[.int .i64 st, .int .i64 nx] 71)) y → y.cell? ⟨w.heap.size, 0, none⟩ = some (.int .i64 st) ∧ y.cell? ⟨w.heap.size, 1, none⟩ = some (.int .i64 nx)) := fun y hb => ⟨(hb.cell (by show w.heap.size < _; omega)).trans hbx.1, (hb.cell (by show w.heap.size < _; omega)).trans hbx.2⟩
  have HNU : Hid (In64 fr ∧ In64 st ∧ In64 nx) := ⟨hfr, hst, hnx⟩
  have HFA : Hid (∀ i, i < ss.length → okAt (bsOf ss) fr st nx i = false → placedB (bsOf ss) fr st nx = false) := fun i hi' h => placed_no (by rw [bsOf_len]; exact hi') h
  have HTR : Hid ((∀ i, i < ss.length → okAt (bsOf ss) fr st nx i = true) → placedB (bsOf ss) fr st nx = true) := fun h => placed_all.2 (fun i hi' => h i (by rw [bsOf_len] at hi'; exact hi'))
  have hlen := hi.len
  unfold maxLen at hlen
  clear hi hbx hfr hst hnx
  generalize placedB (bsOf ss) fr st nx = R at *
  simp only [vB]
  go_enter Try.func27, Try.ntmps27
  go_wp2
  go_loopw [12] (fun i wr => ∃ (k : Nat), k ≤ ss.length ∧ i = .int .i64 k ∧ (∀ i, i < k → okAt (bsOf ss) fr st nx i = true) ∧ Below (w.heap.size + 1) (w.alloc (.cells #[.int .i64 st, .int .i64 nx] 71)) wr) (fun i _ => ss.length - (intOf i).toNat)
  case atStart => exact ⟨0, by omega, rfl, fun i hi => by omega, Below.refl _ _⟩
  case round =>
    obtain ⟨k, hk, rfl, hall, hb⟩ := hrel
    have HAL : Hid (∀ i, i < k → okAt (bsOf ss) fr st nx i = true) := hall
    have HBR : Hid (Below (w.heap.size + 1) (w.alloc (.cells #[.int .i64 st, .int .i64 nx] 71)) wr) := hb
    have HBW : Hid (Below w.heap.size w wr) := HB0.out.trans (hb.mono (by omega))
    clear hall hb
    by_cases hlt : k < ss.length
    · have hltI : (k : Int) < (ss.length : Int) := by omega
      have hin := HBI.out wr HBW.out
      obtain ⟨g, off, rfl, c0, c1, c2, c3, c4⟩ := hin.cells k hlt
      have HXI : Hid (BOk (ss.getD k bsz).b) := hin.ok k hlt
      have HOKA : Hid (okAt (bsOf ss) fr st nx k = (!(decide ((ss.getD k bsz).b.base < fr) && decide ((ss.getD k bsz).b.base + (ss.getD k bsz).b.span ≤ fr)) && decide ((ss.getD k bsz).b.base + (ss.getD k bsz).b.span ≤ nx) && decide (st < (ss.getD k bsz).b.base + (ss.getD k bsz).b.span) && (decide (k = 0) || folB (ss.getD k bsz).b (ss.getD (k - 1) bsz).b))) := by
        show _ = _
        unfold okAt folB
        rw [bsOf_get ss k hlt, bsOf_get ss (k - 1) (by omega)]
      have HNE : Hid (okAt (bsOf ss) fr st nx k = false → R = false) := HFA.out k hlt
      have HNX : Hid (okAt (bsOf ss) fr st nx k = true → ∀ i, i < k + 1 → okAt (bsOf ss) fr st nx i = true) := fun h i hi => by
        by_cases e : i = k
        · rw [e]; exact h
        · exact HAL.out i (by omega)
      have HPV : Hid (∀ y, Below w.heap.size w y → 0 < k → BOk (ss.getD (k - 1) bsz).b ∧ y.cell? ⟨g, off + (k - 1) * 5, none⟩ = some (.int .i64 (ss.getD (k - 1) bsz).b.base) ∧ y.cell? ⟨g, off + (k - 1) * 5 + 1, none⟩ = some (.int .i64 (ss.getD (k - 1) bsz).b.span) ∧ y.cell? ⟨g, off + (k - 1) * 5 + 2, none⟩ = some (.int .i64 (ss.getD (k - 1) bsz).b.prod) ∧ y.cell? ⟨g, off + (k - 1) * 5 + 3, none⟩ = some (.int .i64 (ss.getD (k - 1) bsz).b.seq) ∧ y.cell? ⟨g, off + (k - 1) * 5 + 4, none⟩ = some (.slice (ss.getD (k - 1) bsz).a (ss.getD (k - 1) bsz).b.rs.length (ss.getD (k - 1) bsz).cap)) := fun y hb h0 => by
        have h := HBI.out y hb
        obtain ⟨g', off', e, d0, d1, d2, d3, d4⟩ := h.cells (k - 1) (by omega)
        injection e with e
        injection e with e1 e2
        subst e1; subst e2
        exact ⟨h.ok (k - 1) (by omega), d0, d1, d2, d3, d4⟩
      generalize (ss.getD k bsz).b = x at *
      generalize (ss.getD k bsz).a = xa at *
      generalize (ss.getD k bsz).cap = xc at *
      generalize (ss.getD (k - 1) bsz).b = y at *
      generalize (ss.getD (k - 1) bsz).a = ya at *
      generalize (ss.getD (k - 1) bsz).cap = yc at *
      obtain ⟨FO, HFO⟩ : ∃ FO, Hid (FO = (decide (k = 0) || folB x y)) := ⟨_, rfl⟩
      rw [← HFO.out] at HOKA
      obtain ⟨xb, xs, xp, xq, xr⟩ := x
      simp only at c0 c1 c2 c3 c4 HOKA
      obtain ⟨tz0, tz1, HADD, HABV⟩ : ∃ tz0 tz1, Hid (∀ y, Calls Try.prog 44 #[.int .i64 xb, .int .i64 xs] y fun e w' => e = .returned (.agg #[.int .i64 tz0, .int .i64 tz1]) ∧ Below y.heap.size y w') ∧ Hid (∀ (y : World) (n : Int), (n = fr ∨ n = st ∨ n = nx) → Calls Try.prog 45 #[.agg #[.int .i64 tz0, .int .i64 tz1], .int .i64 n] y fun e w' => e = .returned (.bool (decide (n < xb + xs))) ∧ Below y.heap.size y w') :=
        ⟨rnd (xb + xs), rst (xb + xs), fun y => add_any xb xs y HXI.out.ba HXI.out.sp, fun y n hn => above_any (xb + xs) n y (by
          obtain ⟨h1, h2, h3⟩ := HNU.out
          rcases hn with e | e | e
          · rw [e]; exact h1
          · rw [e]; exact h2
          · rw [e]; exact h3)⟩
      have HK1 : Hid (∀ w1, Below (wr.alloc (.cells #[.int .i64 xb, .int .i64 xs, .int .i64 xp, .int .i64 xq, .slice xa xr.length xc] 61)).heap.size (wr.alloc (.cells #[.int .i64 xb, .int .i64 xs, .int .i64 xp, .int .i64 xq, .slice xa xr.length xc] 61)) w1 → (w1.cell? ⟨w.heap.size, 0, none⟩ = some (.int .i64 st) ∧ w1.cell? ⟨w.heap.size, 1, none⟩ = some (.int .i64 nx) ∧ w1.cell? ⟨wr.heap.size, 0, none⟩ = some (.int .i64 xb) ∧ w1.cell? ⟨wr.heap.size, 1, none⟩ = some (.int .i64 xs) ∧ w1.cell? ⟨wr.heap.size, 2, none⟩ = some (.int .i64 xp) ∧ w1.cell? ⟨wr.heap.size, 3, none⟩ = some (.int .i64 xq) ∧ w1.cell? ⟨wr.heap.size, 4, none⟩ = some (.slice xa xr.length xc)) ∧ wr.heap.size < w1.heap.size ∧ w.heap.size < w1.heap.size) := fun w1 hb1 => by
        have e0 : Below wr.heap.size wr (wr.alloc (.cells #[.int .i64 xb, .int .i64 xs, .int .i64 xp, .int .i64 xq, .slice xa xr.length xc] 61)) := below_box _
        have e1 : Below wr.heap.size wr w1 := e0.trans (hb1.mono e0.size)
        have hsz := HBR.out.size
        rw [show (w.alloc (.cells #[.int .i64 st, .int .i64 nx] 71)).heap.size = w.heap.size + 1 by simp] at hsz
        have e6 : Below (w.heap.size + 1) (w.alloc (.cells #[.int .i64 st, .int .i64 nx] 71)) w1 := HBR.out.trans (e1.mono hsz)
        obtain ⟨t0, t1⟩ := HCX.out w1 e6
        have f := five_cells (heap_alloc_new wr (.cells #[.int .i64 xb, .int .i64 xs, .int .i64 xp, .int .i64 xq, .slice xa xr.length xc] 61))
        have hf := fun {o : Nat} {v : Value} {c : Nat} (hc : (wr.alloc (.cells #[.int .i64 xb, .int .i64 xs, .int .i64 xp, .int .i64 xq, .slice xa xr.length xc] 61)).cell? ⟨c, o, none⟩ = some v) => (hb1.cell (World.block_lt_of_cell? _ _ hc)).trans hc
        have e8 := hb1.size
        rw [show (wr.alloc (.cells #[.int .i64 xb, .int .i64 xs, .int .i64 xp, .int .i64 xq, .slice xa xr.length xc] 61)).heap.size = wr.heap.size + 1 by simp] at e8
        exact ⟨⟨t0, t1, hf f.1, hf f.2.1, hf f.2.2.1, hf f.2.2.2.1, hf f.2.2.2.2⟩, by omega, by omega⟩
      have HK : Hid (∀ w1, Below (wr.alloc (.cells #[.int .i64 xb, .int .i64 xs, .int .i64 xp, .int .i64 xq, .slice xa xr.length xc] 61)).heap.size (wr.alloc (.cells #[.int .i64 xb, .int .i64 xs, .int .i64 xp, .int .i64 xq, .slice xa xr.length xc] 61)) w1 → Hid (∀ y, Below (w1.alloc (.cells #[.int .i64 tz0, .int .i64 tz1] 81)).heap.size (w1.alloc (.cells #[.int .i64 tz0, .int .i64 tz1] 81)) y → (y.cell? ⟨w.heap.size, 0, none⟩ = some (.int .i64 st) ∧ y.cell? ⟨w.heap.size, 1, none⟩ = some (.int .i64 nx) ∧ y.cell? ⟨wr.heap.size, 0, none⟩ = some (.int .i64 xb) ∧ y.cell? ⟨wr.heap.size, 1, none⟩ = some (.int .i64 xs) ∧ y.cell? ⟨wr.heap.size, 2, none⟩ = some (.int .i64 xp) ∧ y.cell? ⟨wr.heap.size, 3, none⟩ = some (.int .i64 xq) ∧ y.cell? ⟨wr.heap.size, 4, none⟩ = some (.slice xa xr.length xc) ∧ y.cell? ⟨w1.heap.size, 0, none⟩ = some (.int .i64 tz0) ∧ y.cell? ⟨w1.heap.size, 1, none⟩ = some (.int .i64 tz1)) ∧ Below w.heap.size w y ∧ BIn y (some ⟨g, off, none⟩) ss ∧ Below (w.heap.size + 1) (w.alloc (.cells #[.int .i64 st, .int .i64 nx] 71)) y)) := fun w1 hb1 y hb => by
        have e0 : Below wr.heap.size wr (wr.alloc (.cells #[.int .i64 xb, .int .i64 xs, .int .i64 xp, .int .i64 xq, .slice xa xr.length xc] 61)) := below_box _
        have e1 : Below wr.heap.size wr w1 := e0.trans (hb1.mono e0.size)
        have e2 : Below w1.heap.size w1 (w1.alloc (.cells #[.int .i64 tz0, .int .i64 tz1] 81)) := below_box _
        have e3 : Below w1.heap.size w1 y := e2.trans (hb.mono e2.size)
        have e4 : Below wr.heap.size wr y := e1.trans (e3.mono e1.size)
        have e5 : Below w.heap.size w y := HBW.out.trans (e4.mono HBW.out.size)
        have hsz := HBR.out.size
        rw [show (w.alloc (.cells #[.int .i64 st, .int .i64 nx] 71)).heap.size = w.heap.size + 1 by simp] at hsz
        have e6 : Below (w.heap.size + 1) (w.alloc (.cells #[.int .i64 st, .int .i64 nx] 71)) y := HBR.out.trans (e4.mono hsz)
        obtain ⟨t0, t1⟩ := HCX.out y e6
        have f := five_cells (heap_alloc_new wr (.cells #[.int .i64 xb, .int .i64 xs, .int .i64 xp, .int .i64 xq, .slice xa xr.length xc] 61))
        have e7 : Below (wr.alloc (.cells #[.int .i64 xb, .int .i64 xs, .int .i64 xp, .int .i64 xq, .slice xa xr.length xc] 61)).heap.size (wr.alloc (.cells #[.int .i64 xb, .int .i64 xs, .int .i64 xp, .int .i64 xq, .slice xa xr.length xc] 61)) y := hb1.trans (e3.mono hb1.size)
        have hf := fun {o : Nat} {v : Value} {c : Nat} (hc : (wr.alloc (.cells #[.int .i64 xb, .int .i64 xs, .int .i64 xp, .int .i64 xq, .slice xa xr.length xc] 61)).cell? ⟨c, o, none⟩ = some v) => (e7.cell (World.block_lt_of_cell? _ _ hc)).trans hc
        have t := two_cells (heap_alloc_new w1 (.cells #[.int .i64 tz0, .int .i64 tz1] 81))
        have ht := fun {o : Nat} {v : Value} {c : Nat} (hc : (w1.alloc (.cells #[.int .i64 tz0, .int .i64 tz1] 81)).cell? ⟨c, o, none⟩ = some v) => (hb.cell (World.block_lt_of_cell? _ _ hc)).trans hc
        exact ⟨⟨t0, t1, hf f.1, hf f.2.1, hf f.2.2.1, hf f.2.2.2.1, hf f.2.2.2.2, ht t.1, ht t.2⟩, e5, HBI.out y e5, e6⟩
      clear hin
      have HBAD : Hid ((xb < fr ∧ ¬ fr < xb + xs) ∨ nx < xb + xs ∨ ¬ st < xb + xs → R = false) := fun h => HNE.out (Bool.eq_false_iff.2 (fun hh => by
        rw [HOKA.out] at hh
        simp only [Bool.and_eq_true, Bool.not_eq_true', Bool.and_eq_false_iff, decide_eq_true_eq, decide_eq_false_iff_not] at hh
        obtain ⟨hh, _⟩ := hh
        omega))
      have HGO : Hid (¬ (xb < fr ∧ ¬ fr < xb + xs) → ¬ nx < xb + xs → st < xb + xs → okAt (bsOf ss) fr st nx k = FO) := fun h1 h2 h3 => by
        rw [HOKA.out]
        have e1 : (!(decide (xb < fr) && decide (xb + xs ≤ fr))) = true := by
          simp only [Bool.not_eq_true', Bool.and_eq_false_iff, decide_eq_false_iff_not]
          omega
        rw [e1, decide_eq_true (show xb + xs ≤ nx by omega), decide_eq_true h3]
        rfl
      by_cases h1 : xb < fr
      · by_cases h2 : fr < xb + xs
        · by_cases h3 : nx < xb + xs
          · have HR := HBAD.out (by omega)
            subst HR
            go_wp2_with (first | (go_at_call 44; refine (HADD.out _).mono ?_; rintro e w1 ⟨rfl, hb1⟩; have HW1 := HK.out w1 (by exact ⟨hb1.os, hb1.tape, hb1.output, hb1.size, hb1.block⟩); have hbY := Below.refl (w1.alloc (.cells #[.int .i64 tz0, .int .i64 tz1] 81)).heap.size (w1.alloc (.cells #[.int .i64 tz0, .int .i64 tz1] 81)); obtain ⟨⟨s0, s1, s2, s3, s4, s5, s6⟩, hsz1, hsz2⟩ := HK1.out w1 (by exact ⟨hb1.os, hb1.tape, hb1.output, hb1.size, hb1.block⟩); clear hb1) | (go_at_call 45; refine (HABV.out _ _ (by first | exact .inl rfl | exact .inr (.inl rfl) | exact .inr (.inr rfl))).mono ?_; rintro e w2 ⟨rfl, hb2⟩; replace hbY := Below.trans hbY (hb2.mono hbY.size); clear hb2; obtain ⟨⟨s0, s1, s2, s3, s4, s5, s6, s7, s8⟩, hbW, hIN, hb6⟩ := HW1.out _ hbY))
            go_ret
            exact ⟨rfl, hbW⟩
          · by_cases h4 : st < xb + xs
            · have HOK2 := HGO.out (by omega) h3 h4
              by_cases hk0 : 0 < k
              · obtain ⟨m, HMK⟩ : ∃ m, Hid (k = m + 1) := ⟨k - 1, show k = k - 1 + 1 by omega⟩
                have HPB := HPV.out
                rw [show k - 1 = m by have := HMK.out; omega] at HPB
                have hk1 : IntKind.i64.wrap ((k : Int) - 1) = (m : Int) := by have := HMK.out; rw [IntKind.wrap_i64]; omega
                have hkI : (0 : Int) < (k : Int) := by omega
                have hbok := (HPB wr HBW.out hk0).1
                obtain ⟨yb, ys, yp, yq, yr⟩ := y
                have HP9 : Hid (∀ y, Below w.heap.size w y → y.cell? ⟨g, off + m * 5, none⟩ = some (.int .i64 yb) ∧ y.cell? ⟨g, off + m * 5 + 1, none⟩ = some (.int .i64 ys) ∧ y.cell? ⟨g, off + m * 5 + 2, none⟩ = some (.int .i64 yp) ∧ y.cell? ⟨g, off + m * 5 + 3, none⟩ = some (.int .i64 yq) ∧ y.cell? ⟨g, off + m * 5 + 4, none⟩ = some (.slice ya yr.length yc)) := fun y hb => (HPB y hb hk0).2
                have HF2 : Hid (FO = folB ⟨xb, xs, xp, xq, xr⟩ ⟨yb, ys, yp, yq, yr⟩) := by show _ = _; rw [HFO.out, decide_eq_false (by omega)]; rfl
                have HFOL : Hid (∀ z, Calls Try.prog 46 #[.agg #[.int .i64 xb, .int .i64 xs, .int .i64 xp, .int .i64 xq, .slice xa xr.length xc], .agg #[.int .i64 yb, .int .i64 ys, .int .i64 yp, .int .i64 yq, .slice ya yr.length yc]] z fun e w' => e = .returned (.bool FO) ∧ Below z.heap.size z w') := fun z => by
                  rw [HF2.out]
                  exact follows_any ⟨xb, xs, xp, xq, xr⟩ ⟨yb, ys, yp, yq, yr⟩ xa ya xc yc z HXI.out hbok
                have hmlI : (m : Int) < (ss.length : Int) := by have := HMK.out; omega
                clear HPB hbok HPV HNE HFO
                go_wp2_with (first | (go_at_call 44; refine (HADD.out _).mono ?_; rintro e w1 ⟨rfl, hb1⟩; have HW1 := HK.out w1 (by exact ⟨hb1.os, hb1.tape, hb1.output, hb1.size, hb1.block⟩); have hbY := Below.refl (w1.alloc (.cells #[.int .i64 tz0, .int .i64 tz1] 81)).heap.size (w1.alloc (.cells #[.int .i64 tz0, .int .i64 tz1] 81)); obtain ⟨⟨s0, s1, s2, s3, s4, s5, s6⟩, hsz1, hsz2⟩ := HK1.out w1 (by exact ⟨hb1.os, hb1.tape, hb1.output, hb1.size, hb1.block⟩); clear hb1) | (go_at_call 45; refine (HABV.out _ _ (by first | exact .inl rfl | exact .inr (.inl rfl) | exact .inr (.inr rfl))).mono ?_; rintro e w2 ⟨rfl, hb2⟩; replace hbY := Below.trans hbY (hb2.mono hbY.size); clear hb2; obtain ⟨⟨s0, s1, s2, s3, s4, s5, s6, s7, s8⟩, hbW, hIN, hb6⟩ := HW1.out _ hbY))
                have hS0 := And.intro s2 (And.intro s3 (And.intro s4 (And.intro s5 (And.intro s6 (HP9.out _ hbW)))))
                go_region_held3 (fun y : World => y.cell? ⟨wr.heap.size, 0, none⟩ = some (.int .i64 xb) ∧ y.cell? ⟨wr.heap.size, 1, none⟩ = some (.int .i64 xs) ∧ y.cell? ⟨wr.heap.size, 2, none⟩ = some (.int .i64 xp) ∧ y.cell? ⟨wr.heap.size, 3, none⟩ = some (.int .i64 xq) ∧ y.cell? ⟨wr.heap.size, 4, none⟩ = some (.slice xa xr.length xc) ∧ y.cell? ⟨g, off + m * 5, none⟩ = some (.int .i64 yb) ∧ y.cell? ⟨g, off + m * 5 + 1, none⟩ = some (.int .i64 ys) ∧ y.cell? ⟨g, off + m * 5 + 2, none⟩ = some (.int .i64 yp) ∧ y.cell? ⟨g, off + m * 5 + 3, none⟩ = some (.int .i64 yq) ∧ y.cell? ⟨g, off + m * 5 + 4, none⟩ = some (.slice ya yr.length yc)) (first | exact hS1 | exact hS0) ((first
                  | (go_at_call 46; refine (HFOL.out _).mono ?_; rintro e w3 ⟨rfl, hb3⟩; have hbZ := Below.trans hbY (by exact Below.mono ⟨hb3.os, hb3.tape, hb3.output, hb3.size, hb3.block⟩ hbY.size); obtain ⟨⟨e0, e1, e2, e3, e4, e5, e6, e7, e8⟩, hbW2, hIN2, hb62⟩ := HW1.out _ hbZ; have hS1 := And.intro e2 (And.intro e3 (And.intro e4 (And.intro e5 (And.intro e6 (HP9.out _ hbW2)))))))) 
                cases FO with
                | false =>
                  have HR := HFA.out k hlt HOK2
                  subst HR
                  go_wp2
                  go_ret
                  exact ⟨rfl, hbW2⟩
                | true =>
                  go_wp2
                  exact ⟨⟨k + 1, by omega, by go_num, HNX.out HOK2, hb62⟩, by simp [intOf]; omega⟩
              · have hkd : decide (0 < (k : Int)) = false := decide_eq_false (by omega)
                have HFT : FO = true := by rw [HFO.out, decide_eq_true (show k = 0 by omega)]; rfl
                go_wp2_with (first | (go_at_call 44; refine (HADD.out _).mono ?_; rintro e w1 ⟨rfl, hb1⟩; have HW1 := HK.out w1 (by exact ⟨hb1.os, hb1.tape, hb1.output, hb1.size, hb1.block⟩); have hbY := Below.refl (w1.alloc (.cells #[.int .i64 tz0, .int .i64 tz1] 81)).heap.size (w1.alloc (.cells #[.int .i64 tz0, .int .i64 tz1] 81)); obtain ⟨⟨s0, s1, s2, s3, s4, s5, s6⟩, hsz1, hsz2⟩ := HK1.out w1 (by exact ⟨hb1.os, hb1.tape, hb1.output, hb1.size, hb1.block⟩); clear hb1) | (go_at_call 45; refine (HABV.out _ _ (by first | exact .inl rfl | exact .inr (.inl rfl) | exact .inr (.inr rfl))).mono ?_; rintro e w2 ⟨rfl, hb2⟩; replace hbY := Below.trans hbY (hb2.mono hbY.size); clear hb2; obtain ⟨⟨s0, s1, s2, s3, s4, s5, s6, s7, s8⟩, hbW, hIN, hb6⟩ := HW1.out _ hbY))
                go_quiet (fail)
                go_wp2
                exact ⟨⟨k + 1, by omega, by go_num, HNX.out (by rw [HOK2]; exact HFT), below_drewN hb6 _⟩, by simp [intOf]; omega⟩
            · have HR := HBAD.out (by omega)
              subst HR
              have hd4 : decide (st < xb + xs) = false := decide_eq_false h4
              go_wp2_with (first | (go_at_call 44; refine (HADD.out _).mono ?_; rintro e w1 ⟨rfl, hb1⟩; have HW1 := HK.out w1 (by exact ⟨hb1.os, hb1.tape, hb1.output, hb1.size, hb1.block⟩); have hbY := Below.refl (w1.alloc (.cells #[.int .i64 tz0, .int .i64 tz1] 81)).heap.size (w1.alloc (.cells #[.int .i64 tz0, .int .i64 tz1] 81)); obtain ⟨⟨s0, s1, s2, s3, s4, s5, s6⟩, hsz1, hsz2⟩ := HK1.out w1 (by exact ⟨hb1.os, hb1.tape, hb1.output, hb1.size, hb1.block⟩); clear hb1) | (go_at_call 45; refine (HABV.out _ _ (by first | exact .inl rfl | exact .inr (.inl rfl) | exact .inr (.inr rfl))).mono ?_; rintro e w2 ⟨rfl, hb2⟩; replace hbY := Below.trans hbY (hb2.mono hbY.size); clear hb2; obtain ⟨⟨s0, s1, s2, s3, s4, s5, s6, s7, s8⟩, hbW, hIN, hb6⟩ := HW1.out _ hbY))
              go_ret
              exact ⟨rfl, hbW⟩
        · have HR := HBAD.out (by omega)
          subst HR
          have hd2 : decide (fr < xb + xs) = false := decide_eq_false h2
          go_wp2_with (first | (go_at_call 44; refine (HADD.out _).mono ?_; rintro e w1 ⟨rfl, hb1⟩; have HW1 := HK.out w1 (by exact ⟨hb1.os, hb1.tape, hb1.output, hb1.size, hb1.block⟩); have hbY := Below.refl (w1.alloc (.cells #[.int .i64 tz0, .int .i64 tz1] 81)).heap.size (w1.alloc (.cells #[.int .i64 tz0, .int .i64 tz1] 81)); obtain ⟨⟨s0, s1, s2, s3, s4, s5, s6⟩, hsz1, hsz2⟩ := HK1.out w1 (by exact ⟨hb1.os, hb1.tape, hb1.output, hb1.size, hb1.block⟩); clear hb1) | (go_at_call 45; refine (HABV.out _ _ (by first | exact .inl rfl | exact .inr (.inl rfl) | exact .inr (.inr rfl))).mono ?_; rintro e w2 ⟨rfl, hb2⟩; replace hbY := Below.trans hbY (hb2.mono hbY.size); clear hb2; obtain ⟨⟨s0, s1, s2, s3, s4, s5, s6, s7, s8⟩, hbW, hIN, hb6⟩ := HW1.out _ hbY))
          go_ret
          exact ⟨rfl, hbW⟩
      · have hd1 : decide (xb < fr) = false := decide_eq_false h1
        by_cases h3 : nx < xb + xs
        · have HR := HBAD.out (by omega)
          subst HR
          go_wp2_with (first | (go_at_call 44; refine (HADD.out _).mono ?_; rintro e w1 ⟨rfl, hb1⟩; have HW1 := HK.out w1 (by exact ⟨hb1.os, hb1.tape, hb1.output, hb1.size, hb1.block⟩); have hbY := Below.refl (w1.alloc (.cells #[.int .i64 tz0, .int .i64 tz1] 81)).heap.size (w1.alloc (.cells #[.int .i64 tz0, .int .i64 tz1] 81)); obtain ⟨⟨s0, s1, s2, s3, s4, s5, s6⟩, hsz1, hsz2⟩ := HK1.out w1 (by exact ⟨hb1.os, hb1.tape, hb1.output, hb1.size, hb1.block⟩); clear hb1) | (go_at_call 45; refine (HABV.out _ _ (by first | exact .inl rfl | exact .inr (.inl rfl) | exact .inr (.inr rfl))).mono ?_; rintro e w2 ⟨rfl, hb2⟩; replace hbY := Below.trans hbY (hb2.mono hbY.size); clear hb2; obtain ⟨⟨s0, s1, s2, s3, s4, s5, s6, s7, s8⟩, hbW, hIN, hb6⟩ := HW1.out _ hbY))
          go_ret
          exact ⟨rfl, hbW⟩
        · by_cases h4 : st < xb + xs
          · have HOK2 := HGO.out (by omega) h3 h4
            by_cases hk0 : 0 < k
            · obtain ⟨m, HMK⟩ : ∃ m, Hid (k = m + 1) := ⟨k - 1, show k = k - 1 + 1 by omega⟩
              have HPB := HPV.out
              rw [show k - 1 = m by have := HMK.out; omega] at HPB
              have hk1 : IntKind.i64.wrap ((k : Int) - 1) = (m : Int) := by have := HMK.out; rw [IntKind.wrap_i64]; omega
              have hkI : (0 : Int) < (k : Int) := by omega
              have hbok := (HPB wr HBW.out hk0).1
              obtain ⟨yb, ys, yp, yq, yr⟩ := y
              have HP9 : Hid (∀ y, Below w.heap.size w y → y.cell? ⟨g, off + m * 5, none⟩ = some (.int .i64 yb) ∧ y.cell? ⟨g, off + m * 5 + 1, none⟩ = some (.int .i64 ys) ∧ y.cell? ⟨g, off + m * 5 + 2, none⟩ = some (.int .i64 yp) ∧ y.cell? ⟨g, off + m * 5 + 3, none⟩ = some (.int .i64 yq) ∧ y.cell? ⟨g, off + m * 5 + 4, none⟩ = some (.slice ya yr.length yc)) := fun y hb => (HPB y hb hk0).2
              have HF2 : Hid (FO = folB ⟨xb, xs, xp, xq, xr⟩ ⟨yb, ys, yp, yq, yr⟩) := by show _ = _; rw [HFO.out, decide_eq_false (by omega)]; rfl
              have HFOL : Hid (∀ z, Calls Try.prog 46 #[.agg #[.int .i64 xb, .int .i64 xs, .int .i64 xp, .int .i64 xq, .slice xa xr.length xc], .agg #[.int .i64 yb, .int .i64 ys, .int .i64 yp, .int .i64 yq, .slice ya yr.length yc]] z fun e w' => e = .returned (.bool FO) ∧ Below z.heap.size z w') := fun z => by
                rw [HF2.out]
                exact follows_any ⟨xb, xs, xp, xq, xr⟩ ⟨yb, ys, yp, yq, yr⟩ xa ya xc yc z HXI.out hbok
              have hmlI : (m : Int) < (ss.length : Int) := by have := HMK.out; omega
              clear HPB hbok HPV HNE HFO
              go_wp2_with (first | (go_at_call 44; refine (HADD.out _).mono ?_; rintro e w1 ⟨rfl, hb1⟩; have HW1 := HK.out w1 (by exact ⟨hb1.os, hb1.tape, hb1.output, hb1.size, hb1.block⟩); have hbY := Below.refl (w1.alloc (.cells #[.int .i64 tz0, .int .i64 tz1] 81)).heap.size (w1.alloc (.cells #[.int .i64 tz0, .int .i64 tz1] 81)); obtain ⟨⟨s0, s1, s2, s3, s4, s5, s6⟩, hsz1, hsz2⟩ := HK1.out w1 (by exact ⟨hb1.os, hb1.tape, hb1.output, hb1.size, hb1.block⟩); clear hb1) | (go_at_call 45; refine (HABV.out _ _ (by first | exact .inl rfl | exact .inr (.inl rfl) | exact .inr (.inr rfl))).mono ?_; rintro e w2 ⟨rfl, hb2⟩; replace hbY := Below.trans hbY (hb2.mono hbY.size); clear hb2; obtain ⟨⟨s0, s1, s2, s3, s4, s5, s6, s7, s8⟩, hbW, hIN, hb6⟩ := HW1.out _ hbY))
              have hS0 := And.intro s2 (And.intro s3 (And.intro s4 (And.intro s5 (And.intro s6 (HP9.out _ hbW)))))
              go_region_held3 (fun y : World => y.cell? ⟨wr.heap.size, 0, none⟩ = some (.int .i64 xb) ∧ y.cell? ⟨wr.heap.size, 1, none⟩ = some (.int .i64 xs) ∧ y.cell? ⟨wr.heap.size, 2, none⟩ = some (.int .i64 xp) ∧ y.cell? ⟨wr.heap.size, 3, none⟩ = some (.int .i64 xq) ∧ y.cell? ⟨wr.heap.size, 4, none⟩ = some (.slice xa xr.length xc) ∧ y.cell? ⟨g, off + m * 5, none⟩ = some (.int .i64 yb) ∧ y.cell? ⟨g, off + m * 5 + 1, none⟩ = some (.int .i64 ys) ∧ y.cell? ⟨g, off + m * 5 + 2, none⟩ = some (.int .i64 yp) ∧ y.cell? ⟨g, off + m * 5 + 3, none⟩ = some (.int .i64 yq) ∧ y.cell? ⟨g, off + m * 5 + 4, none⟩ = some (.slice ya yr.length yc)) (first | exact hS1 | exact hS0) ((first
                | (go_at_call 46; refine (HFOL.out _).mono ?_; rintro e w3 ⟨rfl, hb3⟩; have hbZ := Below.trans hbY (by exact Below.mono ⟨hb3.os, hb3.tape, hb3.output, hb3.size, hb3.block⟩ hbY.size); obtain ⟨⟨e0, e1, e2, e3, e4, e5, e6, e7, e8⟩, hbW2, hIN2, hb62⟩ := HW1.out _ hbZ; have hS1 := And.intro e2 (And.intro e3 (And.intro e4 (And.intro e5 (And.intro e6 (HP9.out _ hbW2)))))))) 
              cases FO with
              | false =>
                have HR := HFA.out k hlt HOK2
                subst HR
                go_wp2
                go_ret
                exact ⟨rfl, hbW2⟩
              | true =>
                go_wp2
                exact ⟨⟨k + 1, by omega, by go_num, HNX.out HOK2, hb62⟩, by simp [intOf]; omega⟩
            · have hkd : decide (0 < (k : Int)) = false := decide_eq_false (by omega)
              have HFT : FO = true := by rw [HFO.out, decide_eq_true (show k = 0 by omega)]; rfl
              go_wp2_with (first | (go_at_call 44; refine (HADD.out _).mono ?_; rintro e w1 ⟨rfl, hb1⟩; have HW1 := HK.out w1 (by exact ⟨hb1.os, hb1.tape, hb1.output, hb1.size, hb1.block⟩); have hbY := Below.refl (w1.alloc (.cells #[.int .i64 tz0, .int .i64 tz1] 81)).heap.size (w1.alloc (.cells #[.int .i64 tz0, .int .i64 tz1] 81)); obtain ⟨⟨s0, s1, s2, s3, s4, s5, s6⟩, hsz1, hsz2⟩ := HK1.out w1 (by exact ⟨hb1.os, hb1.tape, hb1.output, hb1.size, hb1.block⟩); clear hb1) | (go_at_call 45; refine (HABV.out _ _ (by first | exact .inl rfl | exact .inr (.inl rfl) | exact .inr (.inr rfl))).mono ?_; rintro e w2 ⟨rfl, hb2⟩; replace hbY := Below.trans hbY (hb2.mono hbY.size); clear hb2; obtain ⟨⟨s0, s1, s2, s3, s4, s5, s6, s7, s8⟩, hbW, hIN, hb6⟩ := HW1.out _ hbY))
              go_quiet (fail)
              go_wp2
              exact ⟨⟨k + 1, by omega, by go_num, HNX.out (by rw [HOK2]; exact HFT), below_drewN hb6 _⟩, by simp [intOf]; omega⟩
          · have HR := HBAD.out (by omega)
            subst HR
            have hd4 : decide (st < xb + xs) = false := decide_eq_false h4
            go_wp2_with (first | (go_at_call 44; refine (HADD.out _).mono ?_; rintro e w1 ⟨rfl, hb1⟩; have HW1 := HK.out w1 (by exact ⟨hb1.os, hb1.tape, hb1.output, hb1.size, hb1.block⟩); have hbY := Below.refl (w1.alloc (.cells #[.int .i64 tz0, .int .i64 tz1] 81)).heap.size (w1.alloc (.cells #[.int .i64 tz0, .int .i64 tz1] 81)); obtain ⟨⟨s0, s1, s2, s3, s4, s5, s6⟩, hsz1, hsz2⟩ := HK1.out w1 (by exact ⟨hb1.os, hb1.tape, hb1.output, hb1.size, hb1.block⟩); clear hb1) | (go_at_call 45; refine (HABV.out _ _ (by first | exact .inl rfl | exact .inr (.inl rfl) | exact .inr (.inr rfl))).mono ?_; rintro e w2 ⟨rfl, hb2⟩; replace hbY := Below.trans hbY (hb2.mono hbY.size); clear hb2; obtain ⟨⟨s0, s1, s2, s3, s4, s5, s6, s7, s8⟩, hbW, hIN, hb6⟩ := HW1.out _ hbY))
            go_ret
            exact ⟨rfl, hbW⟩
    · obtain rfl : k = ss.length := by omega
      have HE := HTR.out HAL.out
      have hBW := HBW.out
      subst HE
      go_wp2
      go_ret
      exact ⟨rfl, hBW⟩
end Go.Proofs.Ytnnljdnaipjoiaa
