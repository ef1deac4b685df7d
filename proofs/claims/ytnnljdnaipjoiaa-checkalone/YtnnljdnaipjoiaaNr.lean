/- newRecords. -/
import Derived.Test.YtnnljdnaipjoiaaNb
namespace Go.Proofs.Ytnnljdnaipjoiaa
set_option linter.unusedSimpArgs false
set_option linter.unusedVariables false
open Go.RowKit Go.MapKept
set_option maxRecDepth 100000 in
theorem newRecords_any (p : Nat) (v1 v2 v3 : Option Nat) (S : LS) (q : PK) (a : Option Addr) (cap : Nat) (ss : List Bs) (w : World) (hl : LogIs w p v1 v2 v3 S) (hi : BIn w a ss) :
    Calls Try.prog 28 #[.pointer (some ⟨p, 0, none⟩), mkP q, .slice a ss.length cap] w fun e w' => NrS w S.rc (recKs q (bsOf ss)) e w' := by
  have HW : Hid (∀ y, (Nw0 w q).grownBy y (some (w.heap.size + 1)) → NwK w q p v1 v2 v3 S a ss y) := fun y hg => NwK.of hl hi hg
  have HM0 : Hid (MS (Nw0 w q) (w.heap.size + 1) (fun _ => none)) := ⟨0, Nw0.map mkS w q⟩
  have HYES : Hid (∀ F y, agrs sameR S.rc (recKs q (bsOf ss)) (fun _ => none) = some F → MS y (w.heap.size + 1) F → Below w.heap.size w y → NrS w S.rc (recKs q (bsOf ss)) (.returned (.tuple #[.map (some (w.heap.size + 1)), .bool true])) y) := fun F y h1 h2 h3 => ⟨h3, .inl ⟨_, F, h1, rfl, h2, by omega⟩⟩
  have HNO : Hid (∀ l r y, recKs q (bsOf ss) = l ++ r → agrs sameR S.rc l (fun _ => none) = none → Below w.heap.size w y → NrS w S.rc (recKs q (bsOf ss)) (.returned (.tuple #[.map none, .bool false])) y) := fun l r y hr h1 h3 => ⟨h3, .inr ⟨by rw [hr]; exact agrs_stop _ _ _ _ _ h1, rfl⟩⟩
  have hlen := hi.len
  unfold maxLen at hlen
  have hmm := @run_makeMap Try.prog
  have hW0 : Nw0 w q = (w.alloc (.cells #[.string q.1, .int .i64 q.2] 69)).alloc (.map #[] 0) := rfl
  clear hl hi
  obtain ⟨q0, q1⟩ := q
  simp only [mkP] at *
  generalize NrS w S.rc (recKs (q0, q1) (bsOf ss)) = AP at *
  go_enter Try.func28, Try.ntmps28
  go_wp2
  go_loopw [6, 15] (fun m i wr => ∃ (k : Nat) (F : SK → Option Rc), k ≤ ss.length ∧ m = .map (some (w.heap.size + 1)) ∧ i = .int .i64 k ∧ agrs sameR S.rc (recKs (q0, q1) ((bsOf ss).take k)) (fun _ => none) = some F ∧ MS wr (w.heap.size + 1) F ∧ (Nw0 w (q0, q1)).grownBy wr (some (w.heap.size + 1))) (fun _ i _ => ss.length - (intOf i).toNat)
  case atStart => exact ⟨0, _, by omega, rfl, rfl, rfl, HM0.out, ⟨rfl, rfl, rfl, Nat.le_refl _, fun _ _ _ => rfl⟩⟩
  case round =>
    obtain ⟨k, F, hk, rfl, rfl, hag, hmt, hg⟩ := hrel
    obtain ⟨W, hWr⟩ : ∃ W, W = wr := ⟨_, rfl⟩
    subst hWr
    have HG : Hid ((Nw0 w (q0, q1)).grownBy W (some (w.heap.size + 1))) := hg
    have HAG : Hid (agrs sameR S.rc (recKs (q0, q1) ((bsOf ss).take k)) (fun _ => none) = some F) := hag
    have hnw := HW.out W hg
    have HMT : Hid (MS W (w.heap.size + 1) F) := hmt
    clear hag hmt hg
    by_cases hlt : k < ss.length
    · have hltI : (k : Int) < (ss.length : Int) := by omega
      obtain ⟨g, off, rfl, c0, c1, c2, c3, c4⟩ := hnw.inn.cells k hlt
      have HOK : Hid (BOk (ss.getD k bsz).b) := hnw.inn.ok k hlt
      have HRL : (ss.getD k bsz).b.rs.length ≤ maxLen := (hnw.inn.recs k hlt).2
      have HRR : Hid (∀ y, (Nw0 w (q0, q1)).grownBy y (some (w.heap.size + 1)) → RRow y (ss.getD k bsz).a (ss.getD k bsz).b.rs) := fun y hg => ((HW.out y hg).inn.recs k hlt).1
      have HSN : Hid (recKs (q0, q1) ((bsOf ss).take (k + 1)) = recKs (q0, q1) ((bsOf ss).take k) ++ recK (q0, q1) (ss.getD k bsz).b) := by
        have := recKs_snoc (q0, q1) (bsOf ss) k (by rw [bsOf_len]; exact hlt)
        rwa [bsOf_get ss k hlt] at this
      have HRS : Hid (∃ r, recKs (q0, q1) (bsOf ss) = recKs (q0, q1) ((bsOf ss).take (k + 1)) ++ r) := recKs_rest _ _ _
      have hXs := hnw.size
      generalize (ss.getD k bsz).b = x at *
      generalize (ss.getD k bsz).a = xa at *
      generalize (ss.getD k bsz).cap = xc at *
      obtain ⟨xb, xs, xp, xq, xr⟩ := x
      simp only at c0 c1 c2 c3 c4 HRL HRR
      unfold maxLen at HRL
      have hbx := (five_cells (heap_alloc_new W (.cells #[.int .i64 xb, .int .i64 xs, .int .i64 xp, .int .i64 xq, .slice xa xr.length xc] 61))).1
      have HST0 : Hid (agrs sameR S.rc (recKs (q0, q1) ((bsOf ss).take k) ++ recJ (q0, q1) ⟨xb, xs, xp, xq, xr⟩ 0) (fun _ => none) = some F ∧ MS (W.alloc (.cells #[.int .i64 xb, .int .i64 xs, .int .i64 xp, .int .i64 xq, .slice xa xr.length xc] 61)) (w.heap.size + 1) F ∧ (Nw0 w (q0, q1)).grownBy (W.alloc (.cells #[.int .i64 xb, .int .i64 xs, .int .i64 xp, .int .i64 xq, .slice xa xr.length xc] 61)) (some (w.heap.size + 1)) ∧ (W.alloc (.cells #[.int .i64 xb, .int .i64 xs, .int .i64 xp, .int .i64 xq, .slice xa xr.length xc] 61)).cell? ⟨W.heap.size, 0, none⟩ = some (.int .i64 xb)) := by
        have hb : Below W.heap.size W (W.alloc (.cells #[.int .i64 xb, .int .i64 xs, .int .i64 xp, .int .i64 xq, .slice xa xr.length xc] 61)) := below_box _
        obtain ⟨n, hm⟩ := HMT.out
        exact ⟨by rw [recJ_zero, List.append_nil]; exact HAG.out, ⟨n, hm.below hb⟩, grown_trans HG.out (grown_below hb _), hbx⟩
      clear hnw hbx
      go_wp2
      go_loopw [6, 22] (fun m i wr => ∃ (j : Nat) (F : SK → Option Rc), j ≤ xr.length ∧ m = .map (some (w.heap.size + 1)) ∧ i = .int .i64 j ∧ agrs sameR S.rc (recKs (q0, q1) ((bsOf ss).take k) ++ recJ (q0, q1) ⟨xb, xs, xp, xq, xr⟩ j) (fun _ => none) = some F ∧ MS wr (w.heap.size + 1) F ∧ (Nw0 w (q0, q1)).grownBy wr (some (w.heap.size + 1)) ∧ wr.cell? ⟨W.heap.size, 0, none⟩ = some (.int .i64 xb)) (fun _ i _ => xr.length - (intOf i).toNat)
      case atStart => exact ⟨0, F, by omega, rfl, rfl, HST0.out.1, HST0.out.2.1, HST0.out.2.2.1, HST0.out.2.2.2⟩
      case round =>
        clear HST0 HMT HAG HG
        obtain ⟨j, F, hj, rfl, rfl, hag, hmt, hg, hx0⟩ := hrel
        by_cases hjl : j < xr.length
        · have hjlI : (j : Int) < (xr.length : Int) := by omega
          obtain ⟨g2, off2, rfl, d0, d1, d2, d3, d4, d5⟩ := HRR.out wr hg j hjl
          have hrm : xr.getD j rz ∈ xr := by
            simp only [List.getD, List.getElem?_eq_getElem hjl, Option.getD_some]
            exact List.getElem_mem hjl
          have hro := HOK.out.r _ hrm
          have HJS : Hid (agrs sameR S.rc (recKs (q0, q1) ((bsOf ss).take k) ++ recJ (q0, q1) ⟨xb, xs, xp, xq, xr⟩ (j + 1)) (fun _ => none) = agr sameR S.rc F (q0, q1, xb + (xr.getD j rz).o) (xr.getD j rz).own) := by
            show _ = _
            rw [recJ_snoc (q0, q1) ⟨xb, xs, xp, xq, xr⟩ j hjl, ← List.append_assoc, agrs_app, hag]
            exact agrs_one _ _ _ _ _
          have HNN : Hid (∀ y, agrs sameR S.rc (recKs (q0, q1) ((bsOf ss).take k) ++ recJ (q0, q1) ⟨xb, xs, xp, xq, xr⟩ (j + 1)) (fun _ => none) = none → Below w.heap.size w y → AP (.returned (.tuple #[.map none, .bool false])) y) := fun y h1 h2 => by
            obtain ⟨r, hr⟩ := HRS.out
            obtain ⟨r2, hr2⟩ := recJ_rest (q0, q1) ⟨xb, xs, xp, xq, xr⟩ (j + 1)
            rw [HSN.out, hr2] at hr
            exact HNO.out _ (r2 ++ r) y (by rw [hr]; simp only [List.append_assoc]) h1 h2
          have hb0 := HOK.out.ba
          simp only at hb0 hro
          obtain ⟨tz0, tz1, HZ0, HZ1⟩ : ∃ tz0 tz1, Hid (rnd (xb + (xr.getD j rz).o) = tz0) ∧ Hid (rst (xb + (xr.getD j rz).o) = tz1) := ⟨_, _, rfl, rfl⟩
          generalize xr.getD j rz = r at *
          obtain ⟨r0, r1, r2, r3, r4, r5⟩ := r
          simp only at d0 d1 d2 d3 d4 d5 hro HJS HZ0 HZ1
          have HW1 : Hid (Below wr.heap.size wr (wr.alloc (.cells #[.bool r0, .string r1, .bool r2, .string r3, .int .i64 r4, .int .i64 r5] 48))) := below_box _
          have HG1 : Hid ((Nw0 w (q0, q1)).grownBy (wr.alloc (.cells #[.bool r0, .string r1, .bool r2, .string r3, .int .i64 r4, .int .i64 r5] 48)) (some (w.heap.size + 1))) := grown_trans hg (grown_below HW1.out _)
          have HIM : Hid (∀ b, some (w.heap.size + 1) = some b → IsMap (wr.alloc (.cells #[.bool r0, .string r1, .bool r2, .string r3, .int .i64 r4, .int .i64 r5] 48)) b) := fun b e => by
            injection e with e
            subst e
            obtain ⟨n, h2⟩ := hmt
            exact (h2.below HW1.out).isMap
          have HBX : Hid (∀ y, (wr.alloc (.cells #[.bool r0, .string r1, .bool r2, .string r3, .int .i64 r4, .int .i64 r5] 48)).grownBy y (some (w.heap.size + 1)) → y.cell? ⟨p, 1, none⟩ = some (.map v2) ∧ y.cell? ⟨w.heap.size, 0, none⟩ = some (.string q0) ∧ y.cell? ⟨w.heap.size, 1, none⟩ = some (.int .i64 q1) ∧ y.cell? ⟨W.heap.size, 0, none⟩ = some (.int .i64 xb) ∧ y.cell? ⟨wr.heap.size, 0, none⟩ = some (.bool r0) ∧ y.cell? ⟨wr.heap.size, 1, none⟩ = some (.string r1) ∧ y.cell? ⟨wr.heap.size, 2, none⟩ = some (.bool r2) ∧ y.cell? ⟨wr.heap.size, 3, none⟩ = some (.string r3) ∧ y.cell? ⟨wr.heap.size, 4, none⟩ = some (.int .i64 r4) ∧ y.cell? ⟨wr.heap.size, 5, none⟩ = some (.int .i64 r5)) := fun y hgy => by
            have h1 := HW.out y (grown_trans HG1.out hgy)
            have hc := six_cells (heap_alloc_new wr (.cells #[.bool r0, .string r1, .bool r2, .string r3, .int .i64 r4, .int .i64 r5] 48))
            have hm := HIM.out
            exact ⟨h1.log.cells.2.1, h1.b0, h1.b1, cell_kept ((HW1.out.cell (World.block_lt_of_cell? _ _ hx0)).trans hx0) hgy hm, cell_kept hc.1 hgy hm, cell_kept hc.2.1 hgy hm, cell_kept hc.2.2.1 hgy hm, cell_kept hc.2.2.2.1 hgy hm, cell_kept hc.2.2.2.2.1 hgy hm, cell_kept hc.2.2.2.2.2.1 hgy hm⟩
          have HY : Hid (∀ y, Below (wr.alloc (.cells #[.bool r0, .string r1, .bool r2, .string r3, .int .i64 r4, .int .i64 r5] 48)).heap.size (wr.alloc (.cells #[.bool r0, .string r1, .bool r2, .string r3, .int .i64 r4, .int .i64 r5] 48)) y → (y.cell? ⟨p, 1, none⟩ = some (.map v2) ∧ y.cell? ⟨w.heap.size, 0, none⟩ = some (.string q0) ∧ y.cell? ⟨w.heap.size, 1, none⟩ = some (.int .i64 q1) ∧ y.cell? ⟨W.heap.size, 0, none⟩ = some (.int .i64 xb) ∧ y.cell? ⟨wr.heap.size, 0, none⟩ = some (.bool r0) ∧ y.cell? ⟨wr.heap.size, 1, none⟩ = some (.string r1) ∧ y.cell? ⟨wr.heap.size, 2, none⟩ = some (.bool r2) ∧ y.cell? ⟨wr.heap.size, 3, none⟩ = some (.string r3) ∧ y.cell? ⟨wr.heap.size, 4, none⟩ = some (.int .i64 r4) ∧ y.cell? ⟨wr.heap.size, 5, none⟩ = some (.int .i64 r5)) ∧ MOpt y v2 mkS (fun x => (S.rc x).map vR) ∧ MS y (w.heap.size + 1) F) := fun y hb => by
            have hgy := grown_below hb (some (w.heap.size + 1))
            obtain ⟨n, h2⟩ := hmt
            exact ⟨HBX.out y hgy, (HW.out y (grown_trans HG1.out hgy)).log.m2, n, (h2.below HW1.out).below hb⟩
          have hS0 := (HY.out _ (Below.refl _ _)).1
          have HADD : Hid (∀ y, Calls Try.prog 44 #[.int .i64 xb, .int .i64 r5] y fun e w' => e = .returned (.agg #[.int .i64 tz0, .int .i64 tz1]) ∧ Below y.heap.size y w') := fun y => by
            have h := add_any xb r5 y hb0 hro.1
            unfold tot at h
            rw [HZ0.out, HZ1.out] at h
            exact h
          have HOWN : Hid (∀ y, Calls Try.prog 48 #[.agg #[.bool r0, .string r1, .bool r2, .string r3, .int .i64 r4, .int .i64 r5]] y fun e w' => e = .returned (.agg #[.bool r0, .string r1, .bool r2, .string r3, .int .i64 r4, .int .i64 0]) ∧ Below y.heap.size y w') := fun y => own_any ⟨r0, r1, r2, r3, r4, r5⟩ y hro.2.1 hro.2.2
          have HC : Hid (∀ y, Below (wr.alloc (.cells #[.bool r0, .string r1, .bool r2, .string r3, .int .i64 r4, .int .i64 r5] 48)).heap.size (wr.alloc (.cells #[.bool r0, .string r1, .bool r2, .string r3, .int .i64 r4, .int .i64 r5] 48)) y → Calls Try.prog 47 #[.map v2, .map (some (w.heap.size + 1)), .agg #[.string q0, .int .i64 q1, .int .i64 tz0, .int .i64 tz1], .agg #[.bool r0, .string r1, .bool r2, .string r3, .int .i64 r4, .int .i64 0]] y fun e w2 => AgS y (w.heap.size + 1) S.rc F (q0, q1, xb + r5) ⟨r0, r1, r2, r3, r4, 0⟩ e w2) := fun y hb => by
            have h := agrS_any v2 (w.heap.size + 1) S.rc F (q0, q1, xb + r5) ⟨r0, r1, r2, r3, r4, 0⟩ y (HY.out y hb).2.1 (HY.out y hb).2.2
            simp only [mkS] at h
            rw [HZ0.out, HZ1.out] at h
            exact h
          have HG2 : Hid (∀ y z, Below (wr.alloc (.cells #[.bool r0, .string r1, .bool r2, .string r3, .int .i64 r4, .int .i64 r5] 48)).heap.size (wr.alloc (.cells #[.bool r0, .string r1, .bool r2, .string r3, .int .i64 r4, .int .i64 r5] 48)) y → y.grownBy z (some (w.heap.size + 1)) → (Nw0 w (q0, q1)).grownBy z (some (w.heap.size + 1)) ∧ (wr.alloc (.cells #[.bool r0, .string r1, .bool r2, .string r3, .int .i64 r4, .int .i64 r5] 48)).grownBy z (some (w.heap.size + 1))) := fun y z hb hg => ⟨grown_trans (grown_trans HG1.out (grown_below hb _)) hg, grown_trans (grown_below hb _) hg⟩
          have HG3 : Hid (∀ z, (Nw0 w (q0, q1)).grownBy z (some (w.heap.size + 1)) → Below w.heap.size w z) := fun z hg => (HW.out z hg).below
          have HJ2 : Hid (agrs sameR S.rc (recKs (q0, q1) ((bsOf ss).take k) ++ recJ (q0, q1) ⟨xb, xs, xp, xq, xr⟩ (j + 1)) (fun _ => none) = agr sameR S.rc F (q0, q1, xb + r5) ⟨r0, r1, r2, r3, r4, 0⟩) := HJS.out
          clear hag hmt hg hx0 hro HJS hb0 HZ0 HZ1
          go_wp2
          go_region_held3 (fun y : World => y.cell? ⟨p, 1, none⟩ = some (.map v2) ∧ y.cell? ⟨w.heap.size, 0, none⟩ = some (.string q0) ∧ y.cell? ⟨w.heap.size, 1, none⟩ = some (.int .i64 q1) ∧ y.cell? ⟨W.heap.size, 0, none⟩ = some (.int .i64 xb) ∧ y.cell? ⟨wr.heap.size, 0, none⟩ = some (.bool r0) ∧ y.cell? ⟨wr.heap.size, 1, none⟩ = some (.string r1) ∧ y.cell? ⟨wr.heap.size, 2, none⟩ = some (.bool r2) ∧ y.cell? ⟨wr.heap.size, 3, none⟩ = some (.string r3) ∧ y.cell? ⟨wr.heap.size, 4, none⟩ = some (.int .i64 r4) ∧ y.cell? ⟨wr.heap.size, 5, none⟩ = some (.int .i64 r5)) (first | exact hS5 | exact hS4 | exact hS3 | exact hS0) ((first
            | (go_at_call 44; refine (HADD.out _).mono ?_; rintro e w3 ⟨rfl, hb3⟩; have hS3 := (HY.out w3 (by exact ⟨hb3.os, hb3.tape, hb3.output, hb3.size, hb3.block⟩)).1)
            | (go_at_call 48; refine (HOWN.out _).mono ?_; rintro e w4 ⟨rfl, hb4⟩; have hb34 := Below.trans hb3 (hb4.mono hb3.size); have hS4 := (HY.out w4 (by exact ⟨hb34.os, hb34.tape, hb34.output, hb34.size, hb34.block⟩)).1)
            | (go_at_call 47; refine (HC.out w4 (by exact ⟨hb34.os, hb34.tape, hb34.output, hb34.size, hb34.block⟩)).mono ?_; rintro e w5 ⟨ok, F2, rfl, hag2, hmt2, hg2⟩; have hG2 := HG2.out w4 w5 (by exact ⟨hb34.os, hb34.tape, hb34.output, hb34.size, hb34.block⟩) hg2; have hS5 := HBX.out w5 hG2.2)))
          have HA2 : Hid (agr sameR S.rc F (q0, q1, xb + r5) ⟨r0, r1, r2, r3, r4, 0⟩ = if ok = true then some F2 else none) := hag2
          have hx5 : Hid (w5.cell? ⟨W.heap.size, 0, none⟩ = some (.int .i64 xb)) := hS5.2.2.2.1
          have hG := hG2.1
          clear hag2 hS0 hS3 hS4 hS5 hG2 hb3 hb4 hb34
          cases ok with
          | false =>
            have HE := HNN.out w5 (by rw [HJ2.out, HA2.out]; rfl) (HG3.out _ hG)
            go_wp2
            exact HE
          | true =>
            have HE : Hid (agrs sameR S.rc (recKs (q0, q1) ((bsOf ss).take k) ++ recJ (q0, q1) ⟨xb, xs, xp, xq, xr⟩ (j + 1)) (fun _ => none) = some F2) := by show _ = _; rw [HJ2.out, HA2.out]; rfl
            go_wp2
            exact ⟨⟨j + 1, F2, by omega, rfl, by go_num, HE.out, hmt2, hG, hx5.out⟩, by simp [intOf]; omega⟩
        · obtain rfl : j = xr.length := by omega
          have HE : Hid (agrs sameR S.rc (recKs (q0, q1) ((bsOf ss).take (k + 1))) (fun _ => none) = some F) := by
            show _ = _
            rw [HSN.out]
            have e := recJ_all (q0, q1) ⟨xb, xs, xp, xq, xr⟩
            simp only at e
            rw [← e]
            exact hag
          go_wp2
          exact ⟨⟨k + 1, F, by omega, rfl, by go_num, HE.out, hmt, hg⟩, by simp [intOf]; omega⟩
    · obtain rfl : k = ss.length := by omega
      have HE := HYES.out F W (by have := HAG.out; rwa [List.take_of_length_le (by rw [bsOf_len]; omega)] at this) HMT.out hnw.below
      clear hnw
      go_wp2
      exact HE
end Go.Proofs.Ytnnljdnaipjoiaa
