/- The walk of DeviceLasts: true for every argument. -/
import Derived.Test.YtlieckifnkngnaaLsm
namespace Go.Proofs.Ytlieckifnkngnaa
set_option linter.unusedSimpArgs false
set_option linter.unusedVariables false
open Go.RowKit Go.MapKept
theorem made_ints {B g n : Nat} {w1 : World} (h : w1.ownsRow B 3 1 (.slice (some ⟨g, 0, none⟩) n n) n (madeCells (Value.int .i64 0).cells (n * 1)).toList) : IntsAt w1 g 3 (List.replicate n 0) := by
  have e : (madeCells (Value.int .i64 0).cells (n * 1)).toList = (List.replicate n (0 : Int)).map (Value.int .i64) := by
    simp only [madeCells, Value.cells, List.map_replicate]
    rw [List.eq_replicate_iff]
    refine ⟨by simp, ?_⟩
    intro b hb
    simp [Nat.mod_one] at hb
    obtain ⟨_, _, rfl⟩ := hb
    rfl
  rw [e] at h
  rcases h.2 with ⟨q, _⟩ | ⟨g', cap', cur, q, _, hg, hle, hm, hcs, ht⟩
  · cases q
  · injection q with q1 q2 q3
    injection q1 with q1
    injection q1 with q1
    subst q1; subst q3
    unfold IntsAt
    rw [hg]
    have : cur.toList = (List.replicate n (0 : Int)).map (Value.int .i64) := by
      rw [List.take_of_length_le (by simp [hcs])] at ht
      exact ht
    rw [← this]
structure LsAt (w : World) (p gb gm : Nat) (wr : World) (d : Dv) (L : List Int) (vs : List Value) (M : Nat → List Int) : Prop where
  fam : Fam w.heap.size wr (gb :: gm :: mayG vs) [(p, d)]
  ints : IntsAt wr gb 3 L
  may : May w.heap.size [gb] wr gm vs M
  bel : Below w.heap.size w wr
  bd : ∀ k z, z ∈ M k → -9223372036854775808 ≤ z ∧ z ≤ 9223372036854775807
theorem LsAt.lt {w : World} {p gb gm : Nat} {wr : World} {d : Dv} {L : List Int} {vs : List Value} {M : Nat → List Int} (h : LsAt w p gb gm wr d L vs M) : ∀ x ∈ gb :: gm :: mayG vs, x < wr.heap.size := by
  intro x hx
  rcases List.mem_cons.1 hx with rfl | q
  · exact h.ints.lt
  · exact h.may.lt x q
theorem LsAt.wrote {w wr w' : World} {p gb gm : Nat} {d d' : Dv} {L : List Int} {vs : List Value} {M : Nat → List Int} (h : LsAt w p gb gm wr d L vs M) (hF : Fam w.heap.size w' (gb :: gm :: mayG vs) [(p, d')]) (hS : Same (gb :: gm :: mayG vs) wr w') (hB : Below w.heap.size w w') : LsAt w p gb gm w' d' L vs M :=
  ⟨hF, h.ints.blk (hS gb (by simp)), h.may.blk fun x hx => hS x (List.mem_cons.2 (.inr hx)), hB, h.bd⟩
theorem IntsAt.index {w : World} {g t : Nat} {L : List Int} (h : IntsAt w g t L) (i : Nat) (hi : i < L.length) : w.cell? ⟨g, i, none⟩ = some (.int .i64 (L.getD i 0)) := h.cell i hi
theorem LsAt.below {w wr w' : World} {p gb gm : Nat} {d : Dv} {L : List Int} {vs : List Value} {M : Nat → List Int} (h : LsAt w p gb gm wr d L vs M) (hb : Below wr.heap.size wr w') : LsAt w p gb gm w' d L vs M :=
  ⟨h.fam.below hb, h.ints.below hb, h.may.below hb, h.bel.trans (hb.mono h.bel.size), h.bd⟩
theorem LsAt.set {w wr : World} {p gb gm : Nat} {d : Dv} {L : List Int} {vs : List Value} {M : Nat → List Int} (h : LsAt w p gb gm wr d L vs M) (hB : w.heap.size ≤ gb) (k : Nat) (v : Int) : LsAt w p gb gm (wr.setCell ⟨gb, k, none⟩ (.int .i64 v)) d (L.set k v) vs M := by
  have hne : ∀ x ∈ gm :: mayG vs, x ≠ gb := by
    intro x hx e
    rcases List.mem_cons.1 hx with q | q
    · have a := h.may.arr
      have b := h.ints
      unfold IntsAt at b
      rw [← q, e, b] at a
      injection a with t
      injection t with _ t2
      exact absurd t2 (by decide)
    · obtain ⟨i, hi, hx2⟩ := mem_mayG.1 q
      rw [e] at hx2
      exact h.may.far i (by rw [h.may.len] at hi; exact hi) gb hx2 (by simp)
  exact ⟨h.fam.keeps (Keeps.ofSet _ _ _ _ _ (by simp)), h.ints.store k v, h.may.blk fun x hx => heap_setCell_other _ _ _ _ (hne x hx), h.bel.setCell hB _, h.bd⟩
theorem May.spot {B : Nat} {Z : List Nat} {w w1 w2 : World} {gm k : Nat} {vs : List Value} {M : Nat → List Int} {v : Value} (h : May B Z w gm vs M) (hk : k < 12) (hv : vs.getD k undef = v) (hb1 : Below w.heap.size w w1) (hg : w1.grownBy w2 v.ownBlock) : w2.cell? ⟨gm, k, none⟩ = some v ∧ w2.frozen? ⟨gm, k, none⟩ = false := by
  have hgml := h.lt gm (by simp)
  have hgm : v.ownBlock ≠ some gm := fun e => by
    rw [← hv] at e
    obtain ⟨cur, hc, _⟩ := owns_blk (h.row k hk) e
    rw [h.arr] at hc
    injection hc with t
    injection t with _ t2
    exact absurd t2 (by decide)
  have e : w2.heap[gm]? = some (.cells vs.toArray 51 (0, 0)) := (hg.block gm (by have := hb1.size; omega) (Ne.symm hgm)).trans ((hb1.block gm hgml).trans h.arr)
  refine ⟨?_, frozen_of_row _ _ _ _ _ e⟩
  rw [cell_of_row _ _ _ _ _ _ e]
  rw [← hv]
  simp [List.getD, show k < vs.length by rw [h.len]; exact hk]
theorem LsAt.appended {w wr w1 w2 : World} {p gb gm g cap k : Nat} {d : Dv} {L : List Int} {vs : List Value} {M : Nat → List Int} {v : Value} {z : Int} (h : LsAt w p gb gm wr d L vs M) (hk : k < 12) (hv : vs.getD k undef = v) (hb1 : Below wr.heap.size wr w1) (hB : w.heap.size ≤ gm) (hz : -9223372036854775808 ≤ z ∧ z ≤ 9223372036854775807)
    (hown : w2.ownsRow w.heap.size 3 1 (.slice (some ⟨g, 0, none⟩) ((M k).length + 1) cap) ((M k).length + 1) ((M k).map (Value.int .i64) ++ [.int .i64 z])) (hg : w1.grownBy w2 v.ownBlock) (hat : v.ownBlock = some g ∨ g = w1.heap.size) :
    LsAt w p gb gm (w2.setCell ⟨gm, k, none⟩ (.slice (some ⟨g, 0, none⟩) ((M k).length + 1) cap)) d L (vs.set k (.slice (some ⟨g, 0, none⟩) ((M k).length + 1) cap)) (fun x => if x = k then M k ++ [z] else M x) := by
  obtain ⟨m1, m2, m3⟩ := h.may.append hk hv hb1 (fun x hx => by rw [List.mem_singleton.1 hx]; exact h.ints.lt) hown hg hat
  have k2 : Keeps (gb :: gm :: mayG vs) wr (w2.setCell ⟨gm, k, none⟩ (.slice (some ⟨g, 0, none⟩) ((M k).length + 1) cap)) := m2.mono fun x hx => .inl (List.mem_cons.2 (.inr hx))
  have hgbn : gb ∉ gm :: mayG vs := by
    intro hx
    rcases List.mem_cons.1 hx with q | q
    · have a := h.may.arr
      have b := h.ints
      unfold IntsAt at b
      rw [← q, b] at a
      injection a with t
      injection t with _ t2
      exact absurd t2 (by decide)
    · obtain ⟨i, hi, hx2⟩ := mem_mayG.1 q
      exact h.may.far i (by rw [h.may.len] at hi; exact hi) gb hx2 (by simp)
  refine ⟨h.fam.re (fun x hx => ?_) k2, h.ints.blk (m2.block gb h.ints.lt hgbn), m1, ?_, fun x y hy => ?_⟩
  · rcases List.mem_cons.1 hx with q | q
    · exact .inl (by simp [q])
    · rcases List.mem_cons.1 q with q | q
      · exact .inl (by simp [q])
      · rcases m3 x q with a | a
        · exact .inl (List.mem_cons.2 (.inr (List.mem_cons.2 (.inr a))))
        · exact .inr a
  · refine h.bel.trans (m2.below (fun x hx => ?_) h.bel.size)
    rcases List.mem_cons.1 hx with q | q
    · omega
    · obtain ⟨i, hi, hx2⟩ := mem_mayG.1 q
      exact (owns_blk (h.may.row i (by rw [h.may.len] at hi; exact hi)) hx2).choose_spec.2
  · split at hy
    · rcases List.mem_append.1 hy with q | q
      · exact h.bd k y q
      · rw [List.mem_singleton.1 q]; exact hz
    · exact h.bd x y hy
set_option maxRecDepth 100000 in
set_option maxHeartbeats 8000000 in
theorem deviceLasts_walk (a0 : Option Addr) (cap0 : Nat) (l0 : List Int) (a1 : Option Addr) (cap1 : Nat) (l1 : List Int) (a2 : Option Addr) (cap2 : Nat) (l2 : List Int) (w : World) (w0 : RowI w a0 l0) (m0 : l0.length ≤ maxLen) (w1 : RowI w a1 l1) (m1 : l1.length ≤ maxLen) (w2 : RowI w a2 l2) (m2 : l2.length ≤ maxLen) :
    Calls Try.prog 6 #[.slice a0 l0.length cap0, .slice a1 l1.length cap1, .slice a2 l2.length cap2] w fun e w' => e = .returned (.bool true) ∧ Below w.heap.size w w' := by
  unfold maxLen at m0 m1 m2
  by_cases h0 : 60 < l0.length
  · have h0I : 60 < (l0.length : Int) := by omega
    go_enter Try.func6, Try.ntmps6
    go_wp2_with (go_at_call 12; refine (awake_any _).mono ?_; rintro e w2 ⟨rfl, hb⟩)
    go_ret
    exact ⟨rfl, by assumption⟩
  have h0I : ¬ 60 < (l0.length : Int) := by omega
  by_cases h1 : 60 < l1.length
  · have h1I : 60 < (l1.length : Int) := by omega
    go_enter Try.func6, Try.ntmps6
    go_wp2_with (go_at_call 12; refine (awake_any _).mono ?_; rintro e w2 ⟨rfl, hb⟩)
    go_ret
    exact ⟨rfl, by assumption⟩
  have h1I : ¬ 60 < (l1.length : Int) := by omega
  by_cases h2 : 100 < l2.length
  · have h2I : 100 < (l2.length : Int) := by omega
    go_enter Try.func6, Try.ntmps6
    go_wp2_with (go_at_call 12; refine (awake_any _).mono ?_; rintro e w2 ⟨rfl, hb⟩)
    go_ret
    exact ⟨rfl, by assumption⟩
  have h2I : ¬ 100 < (l2.length : Int) := by omega
  have hF0 : Fam w.heap.size w [] [] := trivial
  obtain ⟨i0, hi, hz0, hz1, hz2⟩ := info_parts info3
  have xb : i0.bytes * 12 ≤ 281474976710656 := by rw [hz2]; omega
  go_enter Try.func6, Try.ntmps6
  go_wp2_with (first
    | (go_at_call 13; refine (famNew hF0 (by simp) (Nat.le_refl _) 12 (by omega) (by omega)).mono ?_; rintro e u1 ⟨p, rfl, hF1, hb1⟩)
    | (at_make; refine wpList_make_full _ rfl _ _ 34 rfl u1.heap.size 3 i0 (.int .i64 0) 1 Try.underlying34 hi hz0 hz1 .i64 .i64 _ _ 12 rfl rfl rfl rfl xb (by decide) (Nat.le_refl _) ?_; intro u2 hown0 hg; have hb2 := below_made hg; have hI2 := made_ints hown0; clear hown0 hg))
  have hs1 := hb1.size
  have hs2 := hb2.size
  have hsz2 := hI2.lt
  obtain ⟨gb, HGB⟩ : ∃ gb, Hid (u1.heap.size = gb) := ⟨_, rfl⟩
  obtain ⟨gm, HGM⟩ : ∃ gm, Hid (u2.heap.size = gm) := ⟨_, rfl⟩
  have hgbB : w.heap.size ≤ gb := by rw [← HGB.out]; exact hs1
  have hgmB : w.heap.size ≤ gm := by rw [← HGM.out]; omega
  have hF2 := hF1.cons hb2 u1.heap.size (Nat.le_refl _)
  have hbA : Below u2.heap.size u2 (u2.alloc (.cells #[.slice none 0 0, .slice none 0 0, .slice none 0 0, .slice none 0 0, .slice none 0 0, .slice none 0 0, .slice none 0 0, .slice none 0 0, .slice none 0 0, .slice none 0 0, .slice none 0 0, .slice none 0 0] 51)) := (Below.refl _ _).alloc (Nat.le_refl _) _
  have hF3 := hF2.cons hbA u2.heap.size (Nat.le_refl _)
  have hI3 := hI2.below hbA
  have hM3 := may51 w.heap.size [gb] u2
  have hB3 : Below w.heap.size w (u2.alloc (.cells #[.slice none 0 0, .slice none 0 0, .slice none 0 0, .slice none 0 0, .slice none 0 0, .slice none 0 0, .slice none 0 0, .slice none 0 0, .slice none 0 0, .slice none 0 0, .slice none 0 0, .slice none 0 0] 51)) := (hb1.trans (hb2.mono hs1)).trans (hbA.mono (by omega))
  rw [HGB.out] at hF3 hI3 ⊢
  rw [HGM.out] at hF3 hM3 ⊢
  obtain ⟨vs0, HVS⟩ : ∃ vs0, Hid (List.replicate 12 (Value.slice none 0 0) = vs0) := ⟨_, rfl⟩
  rw [HVS.out] at hM3
  have hF4 : Fam w.heap.size (u2.alloc (.cells #[.slice none 0 0, .slice none 0 0, .slice none 0 0, .slice none 0 0, .slice none 0 0, .slice none 0 0, .slice none 0 0, .slice none 0 0, .slice none 0 0, .slice none 0 0, .slice none 0 0, .slice none 0 0] 51)) (gb :: gm :: mayG vs0) [(p, fresh 12 fun _ => zeros)] := hF3.mono fun x hx => .inl (by
    have e : mayG vs0 = [] := by rw [← HVS.out]; rfl
    rw [e] at hx
    simp only [List.mem_cons, List.not_mem_nil, or_false] at hx ⊢
    rcases hx with q | q
    · exact .inr q
    · exact .inl q)
  have hL4 : LsAt w p gb gm _ _ _ vs0 _ := ⟨hF4, hI3, hM3, hB3, fun k z hz => by simp at hz⟩
  clear hF0 hF1 hF2 hF3 hF4 hI2 hI3 hM3 hB3 hbA hb1 hb2
  go_loopw [11] (fun i wr => ∃ (j : Nat) (d : Dv) (L : List Int), j ≤ l0.length ∧ i = .int .i64 (j : Int) ∧ Good 12 d j L ∧ LsAt w p gb gm wr d L vs0 (fun _ => [])) (fun i _ => l0.length - (iof i).toNat)
  case atStart => exact ⟨0, _, _, by omega, rfl, Good.start 12, hL4⟩
  case round =>
    clear hL4
    obtain ⟨j, d, L, hj, rfl, hGd, hA⟩ := hrel
    by_cases hjl : j < l0.length
    · have hjI : (j : Int) < (l0.length : Int) := by omega
      obtain ⟨b0, o0, z, k, rfl, hcell, hk, K27⟩ := loopR w0 hA.bel hjl 12 (by omega) (by omega)
      have H27 : Hid (∀ w', Calls Try.prog 27 #[.int .i64 z, .int .i64 12] w' fun e w'' => e = .returned (.int .i64 ((k : Nat) : Int)) ∧ w'' = w') := K27
      have hkI : (k : Int) < 12 := by omega
      have HW : Hid _ := loopW hA.fam hA.lt hA.bel (Nat.le_refl _) (⟨hGd.n, hGd.cut, hGd.ops⟩ : Pl 12 d j) (by omega) k hk ((j : Int) + 1)
      have HST : Hid (Good 12 (d.tick.add k (bb ((j : Int) + 1))) (j + 1) (L.set k ((j : Int) + 1))) := hGd.step k hk _
      have HKL : Hid (k < L.length) := by show _ < _; rw [hGd.len]; exact hk
      clear K27 hGd
      go_wp2_with (first
        | (go_at_call 27; refine (H27.out _).mono ?_; rintro e v1 ⟨rfl, hw⟩; subst v1)
        | (go_at_call 20; refine (block_any _ _).mono ?_; rintro e v2 ⟨g2, rfl, f2, _, hb2⟩)
        | (go_at_call 22; refine Calls.mono (HW.out _ _ hb2 f2) ?_; rintro e v3 ⟨rfl, hF3, hS3, hB3, _⟩; have hA3 := hA.wrote hF3 hS3 hB3; have hc3 := hA3.ints.cell k HKL.out; have hf3 := hA3.ints.free k))
      exact ⟨⟨j + 1, _, _, by omega, by go_num, HST.out, hA3.set hgbB k _⟩, by simp [iof]; omega⟩
    · obtain rfl : j = l0.length := by omega
      have hz := hA.bel.size
      have HLA : Hid (La d.flushed (l0.length + 1) L (fun _ => [])) := La.start hGd
      have KF : Hid (Calls Try.prog 23 #[.pointer (some ⟨p, 0, none⟩)] wr fun e w'' => e = .returned (.int .i64 0) ∧ LsAt w p gb gm w'' d.flushed L vs0 (fun _ => [])) := by
        refine (famF hA.fam hA.lt hz (by rw [hGd.ops]; omega)).mono ?_
        rintro e w'' ⟨rfl, hF, hS, hB2, _⟩
        exact ⟨by rw [hGd.on]; rfl, hA.wrote hF hS (hA.bel.trans hB2)⟩
      obtain ⟨d1, HD1⟩ : ∃ d1, Hid (d.flushed = d1) := ⟨_, rfl⟩
      rw [HD1.out] at KF HLA
      clear hA hGd
      go_wp2_with (go_at_call 23; refine Calls.mono KF.out ?_; rintro e u3 ⟨rfl, hA3⟩)
      go_loopw [13] (fun i wr => ∃ (j : Nat) (d : Dv) (vs : List Value) (M : Nat → List Int), j ≤ l1.length ∧ i = .int .i64 (j : Int) ∧ La d (l0.length + 1 + j) L M ∧ (∀ k, (M k).length ≤ j) ∧ LsAt w p gb gm wr d L vs M) (fun i _ => l1.length - (iof i).toNat)
      case atStart => exact ⟨0, d1, vs0, _, by omega, rfl, HLA.out, fun _ => by simp, hA3⟩
      case round =>
        clear hA3 KF
        obtain ⟨j, d, vs, M, hj, rfl, hLa, hMl, hA⟩ := hrel
        by_cases hjl : j < l1.length
        · have hjI : (j : Int) < (l1.length : Int) := by omega
          obtain ⟨b0, o0, z, k, rfl, hcell, hk, K27⟩ := loopR w1 hA.bel hjl 12 (by omega) (by omega)
          have H27 : Hid (∀ w', Calls Try.prog 27 #[.int .i64 z, .int .i64 12] w' fun e w'' => e = .returned (.int .i64 ((k : Nat) : Int)) ∧ w'' = w') := K27
          have hkI : (k : Int) < 12 := by omega
          have HW : Hid _ := loopW hA.fam hA.lt hA.bel (Nat.le_refl _) hLa.pl (by omega) k hk (100 + (j : Int))
          have HLS : Hid (La (d.tick.add k (bb (100 + (j : Int)))) (l0.length + 1 + (j + 1)) L (fun x => if x = k then M k ++ [100 + (j : Int)] else M x)) := by
            have := hLa.step k hk (100 + (j : Int))
            rwa [show l0.length + 1 + j + 1 = l0.length + 1 + (j + 1) by omega] at this
          obtain ⟨v, HV⟩ : ∃ v, Hid (vs.getD k undef = v) := ⟨_, rfl⟩
          have hMk := hMl k
          clear K27 hLa
          go_wp2_with (first
            | (go_at_call 27; refine (H27.out _).mono ?_; rintro e v1 ⟨rfl, hw⟩; subst v1)
            | (go_at_call 20; refine (block_any _ _).mono ?_; rintro e v2 ⟨g2, rfl, f2, _, hb2⟩)
            | (go_at_call 22; refine Calls.mono (HW.out _ _ hb2 f2) ?_; rintro e v3 ⟨rfl, hF3, hS3, hB3, _⟩; have hA3 := hA.wrote hF3 hS3 hB3; have hc3 := hA3.may.cell k hk; rw [HV.out] at hc3; have hr3 := hA3.may.row k hk; rw [HV.out] at hr3; have hsB := hB3.size)
            | (at_builtin; refine wpList_append_lies _ rfl _ _ 34 rfl w.heap.size 3 i0 (.int .i64 0) 1 8 Try.underlying34 hi hz0 hz1 hz2 rfl (by decide) v _ _ rfl (hr3.alloc _) ⟨v3.heap.size, 0, none⟩ 1 1 [.int .i64 (100 + (j : Int))] rfl rfl (cell_one_new _ _ _) (ints_oneCell .i64 [100 + (j : Int)]) (by decide) (by unfold maxLen; omega) (by omega) (by simp; omega) (v3.heap.size + 1) (by simp) ?_; intro g cap w4 hown4 hgrow4 hat4 hlt4; obtain ⟨hc4, hf4⟩ := hA3.may.spot hk HV.out ((Below.refl _ _).alloc (Nat.le_refl _) _) hgrow4))
          have hA4 := hA3.appended hk HV.out ((Below.refl _ _).alloc (Nat.le_refl _) _) hgmB (by omega) hown4 hgrow4 (by simpa using hat4)
          exact ⟨⟨j + 1, _, _, _, by omega, by go_num, HLS.out, fun x => by by_cases e : x = k <;> simp [e] <;> (have := hMl x; have := hMl k; omega), hA4⟩, by simp [iof]; omega⟩
        · obtain rfl : j = l1.length := by omega
          have KC : Hid (Calls Try.prog 25 #[.pointer (some ⟨p, 0, none⟩), .slice a2 l2.length cap2] wr fun e w'' => ∃ c F, e = .returned (.pointer (some ⟨c, 0, none⟩)) ∧ Dev w'' c F (d.crash l2) ∧ LsAt w p gb gm w'' d L vs M) := by
            obtain ⟨F0, hd0⟩ := hA.fam.head
            refine (crashD hd0 a2 l2 cap2 (w2.below hA.bel) (by omega)).mono ?_
            rintro e w'' ⟨c, F, rfl, hd, _, hb⟩
            exact ⟨c, F, rfl, hd, hA.below hb⟩
          have HCR : Hid (∀ k, k < 12 → ∃ t, t ≤ (M k).length ∧ (t = 0 → (d.crash l2).cur k = bb (L.getD k 0)) ∧ ∀ i, t = i + 1 → (d.crash l2).cur k = bb ((M k).getD i 0)) := hLa.crash l2
          have HCN : Hid ((d.crash l2).n = 12) := hLa.pl.n
          have HLL : Hid (L.length = 12) := hLa.len
          have HML : Hid (∀ k, (M k).length ≤ 60) := fun k => by have := hMl k; omega
          clear hA hLa hMl
          go_wp2_with (go_at_call 25; refine Calls.mono KC.out ?_; rintro e u4 ⟨c, F, rfl, hd4, hA4⟩)
          go_loopw [16] (fun i wr => ∃ k : Nat, k ≤ 12 ∧ i = .int .i64 (k : Int) ∧ Dev wr c F (d.crash l2) ∧ LsAt w p gb gm wr d L vs M) (fun i _ => 12 - (iof i).toNat)
          case atStart => exact ⟨0, by omega, rfl, hd4, hA4⟩
          case round =>
            clear hd4 hA4 KC
            obtain ⟨k, hk, rfl, hd, hA⟩ := hrel
            by_cases hk12 : k < 12
            · have hkI : (k : Int) < 12 := by omega
              obtain ⟨t, htl, ht0, hti⟩ := HCR.out k hk12
              have HT0 : Hid (t = 0 → (d.crash l2).cur k = bb (L.getD k 0)) := ht0
              have HTI : Hid (∀ i, t = i + 1 → (d.crash l2).cur k = bb ((M k).getD i 0)) := hti
              have HTL : Hid (t ≤ (M k).length) := htl
              have KR : Hid (Calls Try.prog 18 #[.pointer (some ⟨c, 0, none⟩), .int .i64 (k : Int)] wr fun e w'' => ∃ g', e = .returned (.tuple #[.slice (some ⟨g', 0, none⟩) 512 512, .int .i64 0]) ∧ Full w'' g' 75 ((d.crash l2).cur k) ∧ wr.heap.size ≤ g' ∧ Below wr.heap.size wr w'') := readD hd k (by rw [HCN.out]; exact hk12)
              have HOC : Hid (((d.crash l2).cur k).length = 512 ∧ ∀ i, ((d.crash l2).cur k).getD i 0 < 256) := hd.ok.cur k
              have HKL : Hid (k < L.length) := by show _ < _; rw [HLL.out]; exact hk12
              obtain ⟨x, HX⟩ : ∃ x, Hid ((d.crash l2).cur k = x) := ⟨_, rfl⟩
              rw [HX.out] at HT0 HTI KR HOC
              obtain ⟨zb, HZB⟩ : ∃ zb, Hid (L.getD k 0 = zb) := ⟨_, rfl⟩
              rw [HZB.out] at HT0
              clear htl ht0 hti
              go_wp2_with (first
                | (go_at_call 18; refine Calls.mono KR.out ?_; rintro e v3 ⟨g3, rfl, f3, _, hb3⟩; have hI3 := hA.ints.below hb3; have hc3 := hI3.cell k HKL.out; rw [HZB.out] at hc3)
                | (go_at_call 20; refine (block_any _ _).mono ?_; rintro e v4 ⟨g4, rfl, f4, _, hb4⟩; have f3 := f3.below hb4)
                | (go_at_call 19; refine (alike_any f3 f4 HOC.out.1 HOC.out.2 (bb_len _) (bb_lt _)).mono ?_; rintro e v5 ⟨rfl, hb5⟩; have f3 := f3.below hb5))
              have q5 : Below wr.heap.size wr v5 := (hb3.trans (hb4.mono hb3.size)).trans (hb5.mono (by have := hb3.size; have := hb4.size; omega))
              have hd5 := hd.below q5
              have hA5 := hA.below q5
              have HO0 : Hid (t ≤ 0 → decide (x = bb zb) = true) := fun h => decide_eq_true (HT0.out (by omega))
              obtain ⟨ob0, HOB⟩ : ∃ ob0, Hid (decide (x = bb zb) = ob0) := ⟨_, rfl⟩
              rw [HOB.out] at HO0 ⊢
              clear hd hA hb3 hb4 hb5 hI3 hc3 KR q5
              go_loopw [19, 20] (fun o i wr => ∃ (n : Nat) (ob : Bool), n ≤ (M k).length ∧ o = .bool ob ∧ i = .int .i64 (n : Int) ∧ (t ≤ n → ob = true) ∧ Dev wr c F (d.crash l2) ∧ LsAt w p gb gm wr d L vs M ∧ Full wr g3 75 x) (fun _ i _ => (M k).length - (iof i).toNat)
              case atStart => exact ⟨0, ob0, by omega, rfl, rfl, HO0.out, hd5, hA5, f3⟩
              case round =>
                clear hd5 hA5 f3
                obtain ⟨n, ob, hn, rfl, rfl, hob, hd, hA, f3⟩ := hrel
                have HOB2 : Hid (t ≤ n → ob = true) := hob
                clear hob
                have hcm := hA.may.cell k hk12
                obtain ⟨am, cm, hvm, hrm⟩ := owns_form (hA.may.row k hk12) rfl (fun z hz => hA.bd k z hz)
                rw [hvm] at hcm
                have hMk := HML.out k
                by_cases hnl : n < (M k).length
                · have hnI : (n : Int) < ((M k).length : Int) := by omega
                  cases ob with
                  | true =>
                    clear hvm
                    go_wp2
                    exact ⟨⟨n + 1, true, by omega, rfl, by go_num, fun _ => rfl, hd, hA, f3⟩, by simp [iof]; omega⟩
                  | false =>
                    obtain ⟨b7, o7, rfl, hc7, _, _⟩ := hrm n hnl
                    obtain ⟨zz, HZZ⟩ : ∃ zz, Hid ((M k).getD n 0 = zz) := ⟨_, rfl⟩
                    rw [HZZ.out] at hc7
                    have HNX : Hid (t ≤ n + 1 → decide (x = bb zz) = true) := fun h => by
                      have : t = n + 1 := by
                        rcases Nat.lt_or_ge n t with q | q
                        · omega
                        · have := HOB2.out q; cases this
                      exact decide_eq_true (by rw [HTI.out n this, HZZ.out])
                    clear hvm hrm
                    go_wp2_with (first
                      | (go_at_call 20; refine (block_any _ _).mono ?_; rintro e v8 ⟨g8, rfl, f8, _, hb8⟩; have f3 := f3.below hb8)
                      | (go_at_call 19; refine (alike_any f3 f8 HOC.out.1 HOC.out.2 (bb_len _) (bb_lt _)).mono ?_; rintro e v9 ⟨rfl, hb9⟩; have f3 := f3.below hb9))
                    have q9 : Below wr.heap.size wr v9 := hb8.trans (hb9.mono hb8.size)
                    exact ⟨⟨n + 1, _, by omega, rfl, by go_num, HNX.out, hd.below q9, hA.below q9, f3⟩, by simp [iof]; omega⟩
                · obtain rfl : n = (M k).length := by omega
                  obtain rfl : ob = true := HOB2.out HTL.out
                  clear hvm hrm
                  go_wp2
                  exact ⟨⟨k + 1, by omega, by go_num, hd, hA⟩, by simp [iof]; omega⟩
            · obtain rfl : k = 12 := by omega
              go_wp2_with (go_at_call 12; refine (awake_any _).mono ?_; rintro e v3 ⟨rfl, hb3⟩)
              go_ret
              exact ⟨rfl, hA.bel.trans (hb3.mono hA.bel.size)⟩
end Go.Proofs.Ytlieckifnkngnaa
