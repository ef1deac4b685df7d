/- rising, wrong. -/
import Derived.Test.YtaooidckmepdeaaDoorRr
namespace Go.Proofs.YtaooidckmepdeaaDoor
set_option linter.unusedSimpArgs false
set_option linter.unusedVariables false
open Go.RowKit
/-- Is record i's place right? -/
def RiseAt (rs : List Rc) (span : Int) (i : Nat) : Prop := (rs.getD i rz).o < span ∧ (0 < i → (rs.getD (i - 1) rz).o < (rs.getD i rz).o)
def Rise (rs : List Rc) (span : Int) : Prop := ∀ i, i < rs.length → RiseAt rs span i
def riseAtB (rs : List Rc) (span : Int) (i : Nat) : Bool := decide ((rs.getD i rz).o < span) && (i == 0 || decide ((rs.getD (i - 1) rz).o < (rs.getD i rz).o))
def riseB (rs : List Rc) (span : Int) : Bool := (List.range rs.length).all (riseAtB rs span)
theorem riseAt_iff {rs : List Rc} {span : Int} {i : Nat} : riseAtB rs span i = true ↔ RiseAt rs span i := by
  unfold riseAtB RiseAt
  simp only [Bool.and_eq_true, decide_eq_true_eq, Bool.or_eq_true, beq_iff_eq]
  constructor
  · rintro ⟨h1, h2⟩
    exact ⟨h1, fun h => h2.elim (fun c => absurd c (by omega)) id⟩
  · rintro ⟨h1, h2⟩
    refine ⟨h1, ?_⟩
    by_cases h : i = 0
    · exact .inl h
    · exact .inr (h2 (by omega))
theorem rise_iff {rs : List Rc} {span : Int} : riseB rs span = true ↔ Rise rs span := by
  unfold riseB Rise
  rw [List.all_eq_true]
  exact ⟨fun h i hi => riseAt_iff.1 (h i (List.mem_range.2 hi)), fun h i hi => riseAt_iff.2 (h i (List.mem_range.1 hi))⟩
theorem rise_yes {rs : List Rc} {span : Int} (h : Rise rs span) : riseB rs span = true := rise_iff.2 h
theorem rise_no {rs : List Rc} {span : Int} (h : ¬ Rise rs span) : riseB rs span = false := by
  cases e : riseB rs span with
  | false => rfl
  | true => exact absurd (rise_iff.1 e) h
set_option maxHeartbeats 1600000 in
set_option maxRecDepth 100000 in
theorem rising_any (a : Option Addr) (cap : Nat) (rs : List Rc) (span : Int) (w : World) (hr : RRow w a rs) (hl : rs.length ≤ maxLen) :
    Calls Tryd.prog 101 #[.slice a rs.length cap, .int .i64 span] w fun e w' => e = .returned (.bool (riseB rs span)) ∧ Below w.heap.size w w' := by
  unfold maxLen at hl
  go_enter Tryd.func101, Tryd.ntmps101
  go_wp2_with fail
  go_loopw [9] (fun i wr => ∃ (k : Nat), k ≤ rs.length ∧ i = .int .i64 k ∧ (∀ x, x < k → RiseAt rs span x) ∧ Below w.heap.size w wr) (fun i _ => rs.length - (intOf i).toNat)
  case atStart => exact ⟨0, by omega, rfl, by intro x hx; omega, Below.refl _ _⟩
  case round =>
    obtain ⟨k, hk, rfl, hS, hb⟩ := hrel
    have HS : Hid (∀ x, x < k → RiseAt rs span x) := hS
    clear hS
    by_cases hlt : k < rs.length
    · have hltI : (k : Int) < (rs.length : Int) := by omega
      have HQ : Hid (RiseAt rs span k → ∀ x, x < k + 1 → RiseAt rs span x) := by
        intro e j hj
        by_cases hjk : j = k
        · subst hjk; exact e
        · exact HS.out j (by omega)
      have HN : Hid (¬ RiseAt rs span k → riseB rs span = false) := fun h => rise_no (fun c => h (c k hlt))
      have hr2 := hr.below hb
      obtain ⟨b, off, rfl, z0, z1, z2, z3, z4, z5⟩ := hr2 k hlt
      have hbz := World.block_lt_of_cell? _ _ z0
      simp only at hbz
      have HBB : Hid (∀ cs, Below w.heap.size w (wr.alloc (.cells cs 87))) := fun cs => hb.alloc hb.size _
      by_cases h0 : 0 < k
      · have hkI : (0 : Int) < (k : Int) := by omega
        obtain ⟨j, HJ⟩ : ∃ j, Hid (k = j + 1) := ⟨k - 1, show k = k - 1 + 1 by omega⟩
        have hj := HJ.out
        obtain ⟨b', off', e, y0, y1, y2, y3, y4, y5⟩ := hr2 j (by omega)
        simp only [Option.some.injEq, Addr.mk.injEq, and_true] at e
        obtain ⟨rfl, rfl⟩ := e
        have hk1 : IntKind.i64.wrap ((k : Int) - 1) = (j : Int) := by rw [IntKind.wrap_i64]; omega
        have hk3 : (j : Int) < (rs.length : Int) := by omega
        have HR : Hid (RiseAt rs span k ↔ (rs.getD k rz).o < span ∧ (rs.getD j rz).o < (rs.getD k rz).o) := by
          unfold Hid RiseAt
          rw [show k - 1 = j by omega]
          exact ⟨fun h => ⟨h.1, h.2 h0⟩, fun h => ⟨h.1, fun _ => h.2⟩⟩
        clear hr hr2 y0 y1 y2 y3 y4 hj
        generalize rs.getD k rz = r at *
        generalize (rs.getD j rz).o = po at *
        obtain ⟨hk', kk, hv, v, t, o⟩ := r
        simp only at z0 z1 z2 z3 z4 z5
        by_cases h1 : o < span
        · have h1' : decide (span ≤ o) = false := decide_eq_false (by omega)
          by_cases h2 : po < o
          · have h2' : decide (o ≤ po) = false := decide_eq_false (by omega)
            go_wp2
            go_quiet (fail)
            go_wp2
            exact ⟨⟨k + 1, by omega, by go_num, HQ.out (HR.out.2 ⟨h1, h2⟩), below_drewN (HBB.out _) _⟩, by simp [intOf]; omega⟩
          · have h2' : decide (o ≤ po) = true := decide_eq_true (by omega)
            go_wp2
            go_quiet (fail)
            go_wp2
            go_ret
            exact ⟨retB (HN.out (fun c => absurd (HR.out.1 c).2 (by omega))).symm, below_drewN (HBB.out _) _⟩
        · have h1' : decide (span ≤ o) = true := decide_eq_true (by omega)
          go_wp2
          go_quiet (fail)
          go_wp2
          go_ret
          exact ⟨retB (HN.out (fun c => absurd (HR.out.1 c).1 (by show ¬ o < span; omega))).symm, below_drewN (HBB.out _) _⟩
      · have hkI : ¬ (0 : Int) < (k : Int) := by omega
        have HR : Hid (RiseAt rs span k ↔ (rs.getD k rz).o < span) := by
          unfold Hid RiseAt
          exact ⟨fun h => h.1, fun h => ⟨h, fun c => absurd c h0⟩⟩
        clear hr hr2
        generalize rs.getD k rz = r at *
        obtain ⟨hk', kk, hv, v, t, o⟩ := r
        simp only at z0 z1 z2 z3 z4 z5
        obtain ⟨kI, HKI⟩ : ∃ z : Int, Hid ((k : Int) = z) := ⟨_, rfl⟩
        have q1 : kI.toNat = k := by have := HKI.out; omega
        have q2 : 0 ≤ kI := by have := HKI.out; omega
        have q3 : kI < (rs.length : Int) := by have := HKI.out; omega
        have q4 : decide (0 < kI) = false := decide_eq_false (by have := HKI.out; omega)
        clear h0 hkI hltI
        rw [HKI.out]
        have HW : Hid (kI + 1 = ((k + 1 : Nat) : Int)) := by
          have := HKI.out
          show _ = _
          omega
        by_cases h1 : o < span
        · have h1' : decide (span ≤ o) = false := decide_eq_false (by omega)
          go_wp2
          go_quiet (fail)
          go_wp2
          exact ⟨⟨k + 1, by omega, by rw [HW.out], HQ.out (HR.out.2 h1), below_drewN (HBB.out _) _⟩, by rw [HW.out, ← HKI.out]; simp [intOf]; omega⟩
        · have h1' : decide (span ≤ o) = true := decide_eq_true (by omega)
          go_wp2
          go_quiet (fail)
          go_wp2
          go_ret
          exact ⟨retB (HN.out (fun c => absurd (HR.out.1 c) (by show ¬ o < span; omega))).symm, below_drewN (HBB.out _) _⟩
    · obtain rfl : k = rs.length := by omega
      clear hr
      go_wp2
      go_ret
      exact ⟨retB (rise_yes HS.out).symm, hb⟩
/-- The first record's error. -/
def fstE : List Rc → Int
  | [] => 0
  | r :: t => if chk r = 0 then fstE t else chk r
theorem fst_at (rs : List Rc) (k : Nat) (hk : k < rs.length) (h : ∀ x, x < k → chk (rs.getD x rz) = 0) (hn : chk (rs.getD k rz) ≠ 0) : fstE rs = chk (rs.getD k rz) := by
  induction rs generalizing k with
  | nil => simp at hk
  | cons r t ih =>
    unfold fstE
    cases k with
    | zero => rw [if_neg (show ¬ chk r = 0 from hn)]; rfl
    | succ k =>
      rw [if_pos (show chk r = 0 from h 0 (by omega))]
      exact ih k (by simpa using hk) (fun x hx => h (x + 1) (by omega)) hn
theorem fst_zero (rs : List Rc) (h : ∀ x, x < rs.length → chk (rs.getD x rz) = 0) : fstE rs = 0 := by
  induction rs with
  | nil => rfl
  | cons r t ih =>
    unfold fstE
    rw [if_pos (show chk r = 0 from h 0 (by simp))]
    exact ih (fun x hx => h (x + 1) (by simpa using hx))
theorem fst_all {rs : List Rc} (h : fstE rs = 0) : ∀ r, r ∈ rs → chk r = 0 := by
  induction rs with
  | nil => intro r hr; cases hr
  | cons q t ih =>
    unfold fstE at h
    by_cases hq : chk q = 0
    · rw [if_pos hq] at h
      intro r hr
      rcases List.mem_cons.1 hr with rfl | hr
      · exact hq
      · exact ih h r hr
    · rw [if_neg hq] at h; exact absurd h hq
/-- The numbers ahead of the records. -/
def numsB (b : Ba) : Bool := baseB b.base && decide (1 ≤ b.span) && decide (b.span ≤ 100) && decide (0 ≤ b.prod) && decide (0 ≤ b.seq) && decide (0 < b.rs.length)
/-- Check's error, but for the size. -/
def wrE (b : Ba) : Int := if (numsB b && riseB b.rs b.span) = true then fstE b.rs else 1
set_option maxHeartbeats 1600000 in
set_option maxRecDepth 100000 in
theorem wrong_any (b : Ba) (a : Option Addr) (cap : Nat) (w : World) (hr : RRow w a b.rs) (hl : b.rs.length ≤ maxLen) :
    Calls Tryd.prog 88 #[bav b a cap] w fun e w' => e = .returned (.int .i64 (wrE b)) ∧ Below w.heap.size w w' := by
  have hl0 := hl
  unfold maxLen at hl
  obtain ⟨base, span, prod, seq, rs⟩ := b
  simp only [bav] at hr hl hl0 ⊢
  have HI : Hid _ := isBase_any base
  have HRI : Hid _ := fun w' (h : RRow w' a rs) => rising_any a cap rs span w' h hl0
  obtain ⟨c, HC⟩ : ∃ c, Hid (wrE ⟨base, span, prod, seq, rs⟩ = c) := ⟨_, rfl⟩
  rw [HC.out]
  have HD : Hid (wrE ⟨base, span, prod, seq, rs⟩ = if ((baseB base && decide (1 ≤ span) && decide (span ≤ 100) && decide (0 ≤ prod) && decide (0 ≤ seq) && decide (0 < rs.length)) && riseB rs span) = true then fstE rs else 1) := rfl
  generalize hbb : baseB base = bb at *
  generalize hrb : riseB rs span = rb at *
  clear hbb hrb
  have HR0 : Hid (RRow w a rs) := hr
  clear hr
  have HZ : Hid (∀ cs, Below w.heap.size w (w.alloc (.cells cs 85))) := fun cs => below_box _
  cases bb
  · go_enter Tryd.func88, Tryd.ntmps88
    go_wp2_with (first
      | (go_at_call 100; refine (HI.out _).mono ?_; rintro e w1 ⟨rfl, hw⟩; subst w1)
      | (go_at_call 101; refine (HRI.out _ (RRow.below HR0.out (below_box _))).mono ?_; rintro e w2 ⟨rfl, hb2⟩; have HB2 : Hid (Below w.heap.size w w2) := (below_box _).trans (hb2.mono (by simp)); obtain ⟨hc2, hf2⟩ := bcell hb2; have hz2 : w.heap.size < w2.heap.size := (by (have := hb2.size; simp at this; omega))))
    go_ret
    refine ⟨retI ?_, by first | exact HZ.out _ | exact HB2.out⟩
    rw [← HC.out, HD.out, if_neg]
    simp
    try omega
  · by_cases h1 : span < 1
    · go_enter Tryd.func88, Tryd.ntmps88
      go_wp2_with (first
        | (go_at_call 100; refine (HI.out _).mono ?_; rintro e w1 ⟨rfl, hw⟩; subst w1)
        | (go_at_call 101; refine (HRI.out _ (RRow.below HR0.out (below_box _))).mono ?_; rintro e w2 ⟨rfl, hb2⟩; have HB2 : Hid (Below w.heap.size w w2) := (below_box _).trans (hb2.mono (by simp)); obtain ⟨hc2, hf2⟩ := bcell hb2; have hz2 : w.heap.size < w2.heap.size := (by (have := hb2.size; simp at this; omega))))
      go_ret
      refine ⟨retI ?_, by first | exact HZ.out _ | exact HB2.out⟩
      rw [← HC.out, HD.out, if_neg]
      simp
      try omega
    · by_cases h2 : 100 < span
      · go_enter Tryd.func88, Tryd.ntmps88
        go_wp2_with (first
          | (go_at_call 100; refine (HI.out _).mono ?_; rintro e w1 ⟨rfl, hw⟩; subst w1)
          | (go_at_call 101; refine (HRI.out _ (RRow.below HR0.out (below_box _))).mono ?_; rintro e w2 ⟨rfl, hb2⟩; have HB2 : Hid (Below w.heap.size w w2) := (below_box _).trans (hb2.mono (by simp)); obtain ⟨hc2, hf2⟩ := bcell hb2; have hz2 : w.heap.size < w2.heap.size := (by (have := hb2.size; simp at this; omega))))
        go_ret
        refine ⟨retI ?_, by first | exact HZ.out _ | exact HB2.out⟩
        rw [← HC.out, HD.out, if_neg]
        simp
        try omega
      · by_cases h3 : prod < 0
        · go_enter Tryd.func88, Tryd.ntmps88
          go_wp2_with (first
            | (go_at_call 100; refine (HI.out _).mono ?_; rintro e w1 ⟨rfl, hw⟩; subst w1)
            | (go_at_call 101; refine (HRI.out _ (RRow.below HR0.out (below_box _))).mono ?_; rintro e w2 ⟨rfl, hb2⟩; have HB2 : Hid (Below w.heap.size w w2) := (below_box _).trans (hb2.mono (by simp)); obtain ⟨hc2, hf2⟩ := bcell hb2; have hz2 : w.heap.size < w2.heap.size := (by (have := hb2.size; simp at this; omega))))
          go_ret
          refine ⟨retI ?_, by first | exact HZ.out _ | exact HB2.out⟩
          rw [← HC.out, HD.out, if_neg]
          simp
          try omega
        · by_cases h4 : seq < 0
          · go_enter Tryd.func88, Tryd.ntmps88
            go_wp2_with (first
              | (go_at_call 100; refine (HI.out _).mono ?_; rintro e w1 ⟨rfl, hw⟩; subst w1)
              | (go_at_call 101; refine (HRI.out _ (RRow.below HR0.out (below_box _))).mono ?_; rintro e w2 ⟨rfl, hb2⟩; have HB2 : Hid (Below w.heap.size w w2) := (below_box _).trans (hb2.mono (by simp)); obtain ⟨hc2, hf2⟩ := bcell hb2; have hz2 : w.heap.size < w2.heap.size := (by (have := hb2.size; simp at this; omega))))
            go_ret
            refine ⟨retI ?_, by first | exact HZ.out _ | exact HB2.out⟩
            rw [← HC.out, HD.out, if_neg]
            simp
            try omega
          · by_cases h5 : ((rs.length : Int) == 0) = true
            · go_enter Tryd.func88, Tryd.ntmps88
              go_wp2_with (first
                | (go_at_call 100; refine (HI.out _).mono ?_; rintro e w1 ⟨rfl, hw⟩; subst w1)
                | (go_at_call 101; refine (HRI.out _ (RRow.below HR0.out (below_box _))).mono ?_; rintro e w2 ⟨rfl, hb2⟩; have HB2 : Hid (Below w.heap.size w w2) := (below_box _).trans (hb2.mono (by simp)); obtain ⟨hc2, hf2⟩ := bcell hb2; have hz2 : w.heap.size < w2.heap.size := (by (have := hb2.size; simp at this; omega))))
              go_ret
              refine ⟨retI ?_, by first | exact HZ.out _ | exact HB2.out⟩
              rw [← HC.out, HD.out, if_neg]
              have : rs.length = 0 := by simpa using h5
              simp [this]
            · have h5' : ((rs.length : Int) == 0) = false := by simpa using h5
              cases rb
              · go_enter Tryd.func88, Tryd.ntmps88
                go_wp2_with (first
                  | (go_at_call 100; refine (HI.out _).mono ?_; rintro e w1 ⟨rfl, hw⟩; subst w1)
                  | (go_at_call 101; refine (HRI.out _ (RRow.below HR0.out (below_box _))).mono ?_; rintro e w2 ⟨rfl, hb2⟩; have HB2 : Hid (Below w.heap.size w w2) := (below_box _).trans (hb2.mono (by simp)); obtain ⟨hc2, hf2⟩ := bcell hb2; have hz2 : w.heap.size < w2.heap.size := (by (have := hb2.size; simp at this; omega))))
                go_ret
                refine ⟨retI ?_, by first | exact HZ.out _ | exact HB2.out⟩
                rw [← HC.out, HD.out, if_neg]
                simp
                try omega
              · go_enter Tryd.func88, Tryd.ntmps88
                go_wp2_with (first
                  | (go_at_call 100; refine (HI.out _).mono ?_; rintro e w1 ⟨rfl, hw⟩; subst w1)
                  | (go_at_call 101; refine (HRI.out _ (RRow.below HR0.out (below_box _))).mono ?_; rintro e w2 ⟨rfl, hb2⟩; have HB2 : Hid (Below w.heap.size w w2) := (below_box _).trans (hb2.mono (by simp)); obtain ⟨hc2, hf2⟩ := bcell hb2; have hz2 : w.heap.size < w2.heap.size := (by (have := hb2.size; simp at this; omega))))
                have HT : Hid (c = fstE rs) := by
                  show _ = _
                  rw [← HC.out, HD.out, if_pos]
                  simp at h5' ⊢
                  have := List.length_pos_iff.2 h5'
                  omega
                clear HC HD
                go_loopw [36] (fun i wr => ∃ (k : Nat), k ≤ rs.length ∧ i = .int .i64 k ∧ (∀ x, x < k → chk (rs.getD x rz) = 0) ∧ Below w.heap.size w wr) (fun i _ => rs.length - (intOf i).toNat)
                case atStart => exact ⟨0, by omega, rfl, by intro x hx; omega, HB2.out⟩
                case round =>
                  obtain ⟨k, hk, rfl, hS, hb⟩ := hrel
                  have HS : Hid (∀ x, x < k → chk (rs.getD x rz) = 0) := hS
                  clear hS
                  by_cases hlt : k < rs.length
                  · have hltI : (k : Int) < (rs.length : Int) := by omega
                    have HQ : Hid (chk (rs.getD k rz) = 0 → ∀ x, x < k + 1 → chk (rs.getD x rz) = 0) := by
                      intro e j hj
                      by_cases hjk : j = k
                      · subst hjk; exact e
                      · exact HS.out j (by omega)
                    have HN : Hid (chk (rs.getD k rz) ≠ 0 → c = chk (rs.getD k rz)) := fun h => by rw [HT.out]; exact fst_at rs k hlt HS.out h
                    have HCK : Hid _ := check_any (rs.getD k rz)
                    obtain ⟨b, off, rfl, z0, z1, z2, z3, z4, z5⟩ := (RRow.below HR0.out hb) k hlt
                    have hbz := World.block_lt_of_cell? _ _ z0
                    simp only at hbz
                    have HBB : Hid (∀ cs, Below w.heap.size w (wr.alloc (.cells cs 87))) := fun cs => hb.alloc hb.size _
                    have hz3 : w.heap.size ≤ wr.heap.size := hb.size
                    clear hc2 hf2 hz2 hb2
                    generalize rs.getD k rz = r at *
                    obtain ⟨c0, HC0⟩ : ∃ c0, Hid (chk r = c0) := ⟨_, rfl⟩
                    rw [HC0.out] at HCK HQ HN
                    obtain ⟨hk', kk, hv, v, t, o⟩ := r
                    simp only at z0 z1 z2 z3 z4 z5
                    simp only [Rc.cells] at HCK
                    by_cases h0 : c0 = 0
                    · subst h0
                      go_wp2_with (go_at_call 102; refine (HCK.out _).mono ?_; rintro e w4 ⟨rfl, hb4⟩; have HB4 : Hid (Below w.heap.size w w4) := (HBB.out _).trans (hb4.mono (by simp; omega)))
                      exact ⟨⟨k + 1, by omega, by go_num, HQ.out (by trivial), HB4.out⟩, by simp [intOf]; omega⟩
                    · have h0' : (c0 != 0) = true := by rw [bne_iff_ne]; exact h0
                      go_wp2_with (go_at_call 102; refine (HCK.out _).mono ?_; rintro e w4 ⟨rfl, hb4⟩; have HB4 : Hid (Below w.heap.size w w4) := (HBB.out _).trans (hb4.mono (by simp; omega)))
                      go_ret
                      exact ⟨retI (HN.out (by simpa using h0')).symm, HB4.out⟩
                  · obtain rfl : k = rs.length := by omega
                    go_wp2_with fail
                    go_ret
                    exact ⟨retI (by rw [HT.out, fst_zero rs HS.out]), hb⟩
end Go.Proofs.YtaooidckmepdeaaDoor
