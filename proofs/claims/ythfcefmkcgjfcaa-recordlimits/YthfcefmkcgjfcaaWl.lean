/- The walk of RecordLimits. -/
import Derived.Test.YthfcefmkcgjfcaaLw
import Derived.Deep.CutRange
namespace Go.Proofs.Ythfcefmkcgjfcaa
set_option linter.unusedSimpArgs false
set_option linter.unusedVariables false
open Go.RowKit
section
variable {P : Program} {ops : Array Oper} {Q : Exit → Act → World → Prop} {md : Region.Mode} {S S' : World → Prop} {n : Nat}
/-- What holds in between may be made stronger on the way. -/
theorem Lat.weaken (h : ∀ y, S' y → S y) : ∀ (f : Nat) (l : Array Bool) (a : Act) (w : World), Lat P md ops Q S' n f l a w → Lat P md ops Q S n f l a w
  | 0, _, _, _, g => g
  | f + 1, _, _, _, g => ⟨g.1, fun i hi => wpOp_mono (fun a' w' h' => ⟨fun hn => h _ (h'.1 hn), Lat.weaken h f _ a' w' h'.2⟩) (g.2 i hi)⟩
theorem lat_strong (S' : World → Prop) (h : ∀ y, S' y → S y) {f : Nat} {l : Array Bool} {a : Act} {w : World} (g : LatI P md ops Q S' n f l a w) : LatI P md ops Q S n f l a w := fun inv => Lat.weaken h f l a w (g inv)
theorem LatI.three {i j k : Nat} {oi oj ok : Oper} {f : Nat} {l : Array Bool} {a : Act} {w : World} (hoi : ops[i]? = some oi) (hoj : ops[j]? = some oj) (hok : ops[k]? = some ok) (hr : Region.ready md ops l = [i, j, k]) (hin : i < n) (hjn : j < n) (hkn : k < n)
    (h1 : ∀ K : Act → World → Prop, Shut (∀ a w, S w → (S w → LatI P md ops Q S n f (l.setIfInBounds i true) a w) → K a w) → if Region.wanted oi (yielded ops a.tmps) = true then Oper.wp P oi a w K Q else K (a.put oi.dst undef) w)
    (h2 : ∀ K : Act → World → Prop, Shut (∀ a w, S w → (S w → LatI P md ops Q S n f (l.setIfInBounds j true) a w) → K a w) → if Region.wanted oj (yielded ops a.tmps) = true then Oper.wp P oj a w K Q else K (a.put oj.dst undef) w)
    (h3 : ∀ K : Act → World → Prop, Shut (∀ a w, S w → (S w → LatI P md ops Q S n f (l.setIfInBounds k true) a w) → K a w) → if Region.wanted ok (yielded ops a.tmps) = true then Oper.wp P ok a w K Q else K (a.put ok.dst undef) w) :
    LatI P md ops Q S n (f + 1) l a w := fun inv => by
  refine ⟨fun h0 => absurd h0 (by rw [hr]; simp), fun m hm => ?_⟩
  have hm' := hm
  rw [hr] at hm
  rcases List.mem_cons.1 hm with rfl | hm
  · exact wpOp_step hoi fun K hK => h1 K fun a w hS hW => hK a w ⟨fun _ => hS, hW hS (inv.set hm' hin)⟩
  · rcases List.mem_cons.1 hm with rfl | hm
    · exact wpOp_step hoj fun K hK => h2 K fun a w hS hW => hK a w ⟨fun _ => hS, hW hS (inv.set hm' hjn)⟩
    · obtain rfl : m = k := by simpa using hm
      exact wpOp_step hok fun K hK => h3 K fun a w hS hW => hK a w ⟨fun _ => hS, hW hS (inv.set hm' hkn)⟩
end
section
variable {P : Program} {L : List Oper} {Q : Exit → Act → World → Prop} {md : Region.Mode} {S : World → Prop} {n : Nat}
theorem lat_three (i j k : Nat) {oi oj ok : Oper} {ri rj rk : List Oper} {f : Nat} {l : Array Bool} {a : Act} {w : World} (hi : L.drop i = oi :: ri) (hj : L.drop j = oj :: rj) (hk : L.drop k = ok :: rk) (hr : Region.ready md L.toArray l = [i, j, k]) (hin : i < n) (hjn : j < n) (hkn : k < n)
    (hwi : Region.wanted oi (yielded L.toArray a.tmps) = true) (hwj : Region.wanted oj (yielded L.toArray a.tmps) = true) (hwk : Region.wanted ok (yielded L.toArray a.tmps) = true)
    (h1 : ∀ K : Act → World → Prop, Shut (∀ a w, S w → (S w → LatI P md L.toArray Q S n f (l.setIfInBounds i true) a w) → K a w) → Oper.wp P oi a w K Q)
    (h2 : ∀ K : Act → World → Prop, Shut (∀ a w, S w → (S w → LatI P md L.toArray Q S n f (l.setIfInBounds j true) a w) → K a w) → Oper.wp P oj a w K Q)
    (h3 : ∀ K : Act → World → Prop, Shut (∀ a w, S w → (S w → LatI P md L.toArray Q S n f (l.setIfInBounds k true) a w) → K a w) → Oper.wp P ok a w K Q) :
    LatI P md L.toArray Q S n (f + 1) l a w := LatI.three (lat_at hi) (lat_at hj) (lat_at hk) hr hin hjn hkn (fun K hK => by rw [if_pos hwi]; exact h1 K hK) (fun K hK => by rw [if_pos hwj]; exact h2 K hK) (fun K hK => by rw [if_pos hwk]; exact h3 K hK)
end
theorem rep_lt (m : Nat) : ∀ i, (List.replicate m 0).getD i 0 < 256 := by
  intro i
  simp only [List.getD, List.getElem?_replicate]
  split <;> simp
theorem made_zero (m : Nat) : madeCells (Value.int .u8 0).cells (m * 1) = (cv (List.replicate m 0)).toArray := by
  unfold madeCells
  apply Array.ext
  · simp [cv]
  · intro i h1 h2
    simp [Value.cells, cv, Nat.mod_one]
theorem wp_make {w : World} {o : Oper} {a : Act} {K : Act → World → Prop} {Q : Exit → Act → World → Prop} (l c : Operand) (ho : o.op = .makeSlice 25 l c) (m : Nat) (hl : a.eval l = .int .i64 (m : Int)) (hc : a.eval c = .int .i64 (m : Int)) (hm : m ≤ 100000)
    (h : K (a.put o.dst (.slice (some ⟨w.heap.size, 0, none⟩) m m)) (w.alloc (.cells (cv (List.replicate m 0)).toArray 5))) : o.wp Try.prog a w K Q := by
  obtain ⟨i0, hi, hz0, hz1, hz2⟩ := info_parts Try.info5
  have hr := run_make (P := Try.prog) w 25 5 i0 (.int .u8 0) Try.underlying25 hi hz0 .i64 .i64 (m : Int) (m : Int) (by omega) (by omega) (by rw [hz2]; omega) (by omega)
  rw [hz1, Int.toNat_natCast, made_zero] at hr
  unfold Oper.wp execOp
  simp only [ho, hl, hc, Sem.run_bind, Sem.run_pure, Result.andThen_ok, hr]
  exact h
theorem strN_len (l : List Nat) : (strN l).size = l.length := by
  have h : (strN l).data.toList.length = l.length := by
    unfold strN
    rw [strOfNums_data]
    simp
  rw [← h]
  simp
theorem lim_chk (nK nV : Nat) (a2 a3 : Int) :
    (a2 < 0 ∨ 1125899906842624 < a2 ∨ a3 < 0 ∨ 99 < a3 → chk ⟨true, strN (List.replicate nK 0), true, strN (List.replicate nV 0), a2, a3⟩ = 1) ∧
    (0 ≤ a2 ∧ a2 ≤ 1125899906842624 ∧ 0 ≤ a3 ∧ a3 ≤ 99 → 2000 < (nK : Int) ∨ 2000 < (nV : Int) → chk ⟨true, strN (List.replicate nK 0), true, strN (List.replicate nV 0), a2, a3⟩ = 2) ∧
    (0 ≤ a2 ∧ a2 ≤ 1125899906842624 ∧ 0 ≤ a3 ∧ a3 ≤ 99 → (nK : Int) ≤ 2000 → (nV : Int) ≤ 2000 → chk ⟨true, strN (List.replicate nK 0), true, strN (List.replicate nV 0), a2, a3⟩ = 0) := by
  have h1 := strN_len (List.replicate nK 0)
  have h2 := strN_len (List.replicate nV 0)
  rw [List.length_replicate] at h1 h2
  unfold chk oddB timeB
  simp only [h1, h2]
  refine ⟨?_, ?_, ?_⟩
  · intro h
    rw [if_pos]
    simp
    omega
  · intro h h'
    rw [if_neg (by simp; omega), if_pos h']
  · intro h h' h''
    rw [if_neg (by simp; omega), if_neg (by omega)]
theorem lim_len (nK nV : Nat) (a2 a3 : Int) : nK + nV + 5 ≤ (encL ⟨true, strN (List.replicate nK 0), true, strN (List.replicate nV 0), a2, a3⟩ 0).length := by
  have h1 := strN_len (List.replicate nK 0)
  have h2 := strN_len (List.replicate nV 0)
  rw [List.length_replicate] at h1 h2
  unfold encL textL
  simp only [if_true, List.length_cons, List.length_append, sb_len, h1, h2]
  have q1 := (groups_len a3.toNat).1
  have q2 := (groups_len (zig (a2 - 0)).toNat).1
  have q3 := (groups_len nK).1
  have q4 := (groups_len nV).1
  omega
set_option maxRecDepth 100000 in
set_option maxHeartbeats 2000000 in
theorem limits_in (nK nV : Nat) (a2 a3 : Int) (u : World) (hK : nK ≤ 2100) (hV : nV ≤ 2100) (b0 : -9223372036854775808 ≤ a2) (b1 : a2 ≤ 9223372036854775807) (b2 : -9223372036854775808 ≤ a3) (b3 : a3 ≤ 9223372036854775807) :
    Calls Try.prog 7 #[.int .i64 (nK : Int), .int .i64 (nV : Int), .int .i64 a2, .int .i64 a3] u fun e w' => e = .returned (.bool true) ∧ Below u.heap.size u w' := by
  have hKI : (nK : Int) ≤ 2100 := by omega
  have hVI : (nV : Int) ≤ 2100 := by omega
  have HA : Hid _ := awake_any
  go_enter Try.func7, Try.ntmps7
  go_upto_region 3 with fail
  go_cut [9] from 28 (fun p wc => ∃ g, p = .pointer (some ⟨g, 0, none⟩) ∧ wc.heap[g]? = some (.cells (Rc.cells ⟨true, strN (List.replicate nK 0), true, strN (List.replicate nV 0), a2, a3⟩) 23 (0, 0)) ∧ Below u.heap.size u wc)
  case first =>
    refine wp_region_lat (fun y => Below u.heap.size u y) 10 (by kernel_rfl) ((Below.refl _ _).drew) (fun hHeld => ?_)
    generalize u.drew = y0 at hHeld ⊢
    refine lat_take 0 (v := ?_) rfl (by kernel_rfl) (by kernel_rfl) (by kernel_rfl) (by kernel_rfl) (fun _ _ _ h => h) (by rfl) ?_ (by assumption) ?_
    rotate_left
    · (intro w hSw; have _k := hSw; go_simp <;> with_reducible rfl)
    try simp only [Act.put, List.setIfInBounds_toArray, List.set_cons_zero, List.set_cons_succ]
    refine lat_take 3 (v := ?_) rfl (by kernel_rfl) (by kernel_rfl) (by kernel_rfl) (by kernel_rfl) (fun _ _ _ h => h) (by rfl) ?_ (by assumption) ?_
    rotate_left
    · (intro w hSw; have _k := hSw; go_simp <;> with_reducible rfl)
    try simp only [Act.put, List.setIfInBounds_toArray, List.set_cons_zero, List.set_cons_succ]
    refine lat_take 6 (v := ?_) rfl (by kernel_rfl) (by kernel_rfl) (by kernel_rfl) (by kernel_rfl) (fun _ _ _ h => h) (by rfl) ?_ (by assumption) ?_
    rotate_left
    · (intro w hSw; have _k := hSw; go_simp <;> with_reducible rfl)
    try simp only [Act.put, List.setIfInBounds_toArray, List.set_cons_zero, List.set_cons_succ]
    refine lat_take 7 (v := ?_) rfl (by kernel_rfl) (by kernel_rfl) (by kernel_rfl) (by kernel_rfl) (fun _ _ _ h => h) (by rfl) ?_ (by assumption) ?_
    rotate_left
    · (intro w hSw; have _k := hSw; go_simp <;> with_reducible rfl)
    try simp only [Act.put, List.setIfInBounds_toArray, List.set_cons_zero, List.set_cons_succ]
    refine lat_three 1 4 9 rfl rfl rfl (by kernel_rfl) (by decide) (by decide) (by decide) (by rfl) (by rfl) (by rfl) (fun K hK => ?_) (fun K hK => ?_) (fun K hK => ?_)
    · refine wp_make _ _ rfl nK rfl rfl (by omega) ?_
      have hb := below_box (w := y0) (.cells (cv (List.replicate nK 0)).toArray 5)
      have hw := row_alloc y0 (List.replicate nK 0) (rep_lt nK)
      obtain ⟨g1, hg1⟩ : ∃ g, g = y0.heap.size := ⟨_, rfl⟩
      rw [← hg1] at hw ⊢
      generalize y0.alloc (.cells (cv (List.replicate nK 0)).toArray 5) = y1 at hb hw ⊢
      clear hg1
      have hT1 : Below u.heap.size u y1 := hHeld.trans (hb.mono hHeld.size)
      refine hK.out _ _ hT1 (fun _ => ?_)
      clear hK hb
      have hU1 : Below u.heap.size u y1 ∧ Row y1 (some ⟨g1, 0, none⟩) (List.replicate nK 0) := ⟨hT1, hw⟩
      refine lat_strong (S' := fun y => Below u.heap.size u y ∧ Row y (some ⟨g1, 0, none⟩) (List.replicate nK 0)) (fun y h => h.1) ?_
      clear hw hT1 hHeld
      try simp only [Act.put, List.setIfInBounds_toArray, List.set_cons_zero, List.set_cons_succ]
      refine lat_take 2 (v := ?_) rfl (by kernel_rfl) (by kernel_rfl) (by kernel_rfl) (by kernel_rfl) (fun _ _ _ h => h) (by rfl) ?_ (by assumption) ?_
      rotate_left
      · (intro w hSw; have kc := conv_row nK hSw.2; rw [List.length_replicate] at kc; go_simp <;> with_reducible rfl)
      try simp only [Act.put, List.setIfInBounds_toArray, List.set_cons_zero, List.set_cons_succ]
      refine lat_two 4 9 rfl rfl (by kernel_rfl) (by decide) (by decide) (by rfl) (by rfl) (fun K hK => ?_) (fun K hK => ?_)
      · refine wp_make _ _ rfl nV rfl rfl (by omega) ?_
        have hb := below_box (w := y1) (.cells (cv (List.replicate nV 0)).toArray 5)
        have hw := row_alloc y1 (List.replicate nV 0) (rep_lt nV)
        obtain ⟨g4, hg4⟩ : ∃ g, g = y1.heap.size := ⟨_, rfl⟩
        rw [← hg4] at hw ⊢
        generalize y1.alloc (.cells (cv (List.replicate nV 0)).toArray 5) = y4 at hb hw ⊢
        clear hg4
        have hT4 : Below u.heap.size u y4 ∧ Row y4 (some ⟨g1, 0, none⟩) (List.replicate nK 0) := ⟨hU1.1.trans (hb.mono hU1.1.size), hU1.2.below hb⟩
        refine hK.out _ _ hT4 (fun _ => ?_)
        clear hK hb
        have hU4 : Below u.heap.size u y4 ∧ Row y4 (some ⟨g1, 0, none⟩) (List.replicate nK 0) ∧ Row y4 (some ⟨g4, 0, none⟩) (List.replicate nV 0) := ⟨hT4.1, hT4.2, hw⟩
        refine lat_strong (S' := fun y => Below u.heap.size u y ∧ Row y (some ⟨g1, 0, none⟩) (List.replicate nK 0) ∧ Row y (some ⟨g4, 0, none⟩) (List.replicate nV 0)) (fun y h => ⟨h.1, h.2.1⟩) ?_
        clear hw hT4 hU1
        try simp only [Act.put, List.setIfInBounds_toArray, List.set_cons_zero, List.set_cons_succ]
        refine lat_take 5 (v := ?_) rfl (by kernel_rfl) (by kernel_rfl) (by kernel_rfl) (by kernel_rfl) (fun _ _ _ h => h) (by rfl) ?_ (by assumption) ?_
        rotate_left
        · (intro w hSw; have kc := conv_row nV hSw.2.2; rw [List.length_replicate] at kc; go_simp <;> with_reducible rfl)
        try simp only [Act.put, List.setIfInBounds_toArray, List.set_cons_zero, List.set_cons_succ]
        refine lat_take 8 (v := ?_) rfl (by kernel_rfl) (by kernel_rfl) (by kernel_rfl) (by kernel_rfl) (fun _ _ _ h => h) (by rfl) ?_ (by assumption) ?_
        rotate_left
        · (intro w hSw; have _k := hSw; go_simp <;> with_reducible rfl)
        try simp only [Act.put, List.setIfInBounds_toArray, List.set_cons_zero, List.set_cons_succ]
        refine lat_one 9 rfl (by kernel_rfl) (by decide) (by rfl) (fun K hK => ?_)
        go_simp
        have hb := below_box (w := y4) (.cells rz.cells 23)
        have hw := zero_box y4
        have hge : u.heap.size ≤ y4.heap.size := hU4.1.size
        obtain ⟨g9, hg9⟩ : ∃ g, g = y4.heap.size := ⟨_, rfl⟩
        rw [← hg9] at hge hw ⊢
        change K _ (y4.alloc (.cells rz.cells 23))
        generalize y4.alloc (.cells rz.cells 23) = y9 at hb hw ⊢
        clear hg9
        have hT9 : Below u.heap.size u y9 ∧ Row y9 (some ⟨g1, 0, none⟩) (List.replicate nK 0) ∧ Row y9 (some ⟨g4, 0, none⟩) (List.replicate nV 0) := ⟨hU4.1.trans (hb.mono hU4.1.size), hU4.2.1.below hb, hU4.2.2.below hb⟩
        refine hK.out _ _ hT9 (fun _ => ?_)
        clear hK hb
        have hU9 : Below u.heap.size u y9 ∧ Row y9 (some ⟨g1, 0, none⟩) (List.replicate nK 0) ∧ Row y9 (some ⟨g4, 0, none⟩) (List.replicate nV 0) ∧ y9.heap[g9]? = some (.cells rz.cells 23 (0, 0)) := ⟨hT9.1, hT9.2.1, hT9.2.2, hw⟩
        refine lat_strong (S' := fun y => Below u.heap.size u y ∧ Row y (some ⟨g1, 0, none⟩) (List.replicate nK 0) ∧ Row y (some ⟨g4, 0, none⟩) (List.replicate nV 0) ∧ y.heap[g9]? = some (.cells rz.cells 23 (0, 0))) (fun y h => ⟨h.1, h.2.1, h.2.2.1⟩) ?_
        clear hw hT9 hU4
        try simp only [Act.put, List.setIfInBounds_toArray, List.set_cons_zero, List.set_cons_succ]
        refine lat_last 10 rfl (by kernel_rfl) (by decide) (by kernel_rfl) (by rfl) (fun K hK => ?_)
        refine wp_store_row 23 _ _ rfl g9 (Rc.cells ⟨true, strN (List.replicate nK 0), true, strN (List.replicate nV 0), a2, a3⟩) rfl rfl 23 rz.cells hU9.2.2.2 Try.info23 rfl (rc_one _) ?_
        refine hK.out _ _ ?_
        clear hK
        try simp only [Act.put, List.setIfInBounds_toArray, List.set_cons_zero, List.set_cons_succ]
        go_wp2_with fail
        go_meet
        case rel => exact ⟨g9, rfl, setRow_heap _ _ _ _ _ _ hU9.2.2.2, below_setRow hU9.1 hge _⟩
      · go_simp
        have hb := below_box (w := y1) (.cells rz.cells 23)
        have hw := zero_box y1
        have hge : u.heap.size ≤ y1.heap.size := hU1.1.size
        obtain ⟨g9, hg9⟩ : ∃ g, g = y1.heap.size := ⟨_, rfl⟩
        rw [← hg9] at hge hw ⊢
        change K _ (y1.alloc (.cells rz.cells 23))
        generalize y1.alloc (.cells rz.cells 23) = y9 at hb hw ⊢
        clear hg9
        have hT9 : Below u.heap.size u y9 ∧ Row y9 (some ⟨g1, 0, none⟩) (List.replicate nK 0) := ⟨hU1.1.trans (hb.mono hU1.1.size), hU1.2.below hb⟩
        refine hK.out _ _ hT9 (fun _ => ?_)
        clear hK hb
        have hU9 : Below u.heap.size u y9 ∧ Row y9 (some ⟨g1, 0, none⟩) (List.replicate nK 0) ∧ y9.heap[g9]? = some (.cells rz.cells 23 (0, 0)) := ⟨hT9.1, hT9.2, hw⟩
        refine lat_strong (S' := fun y => Below u.heap.size u y ∧ Row y (some ⟨g1, 0, none⟩) (List.replicate nK 0) ∧ y.heap[g9]? = some (.cells rz.cells 23 (0, 0))) (fun y h => ⟨h.1, h.2.1⟩) ?_
        clear hw hT9 hU1
        try simp only [Act.put, List.setIfInBounds_toArray, List.set_cons_zero, List.set_cons_succ]
        refine lat_one 4 rfl (by kernel_rfl) (by decide) (by rfl) (fun K hK => ?_)
        refine wp_make _ _ rfl nV rfl rfl (by omega) ?_
        have hb := below_box (w := y9) (.cells (cv (List.replicate nV 0)).toArray 5)
        have hw := row_alloc y9 (List.replicate nV 0) (rep_lt nV)
        obtain ⟨g4, hg4⟩ : ∃ g, g = y9.heap.size := ⟨_, rfl⟩
        rw [← hg4] at hw ⊢
        generalize y9.alloc (.cells (cv (List.replicate nV 0)).toArray 5) = y4 at hb hw ⊢
        clear hg4
        have hT4 : Below u.heap.size u y4 ∧ Row y4 (some ⟨g1, 0, none⟩) (List.replicate nK 0) ∧ y4.heap[g9]? = some (.cells rz.cells 23 (0, 0)) := ⟨hU9.1.trans (hb.mono hU9.1.size), hU9.2.1.below hb, (hb.block _ (Array.getElem?_eq_some_iff.1 hU9.2.2).1).trans hU9.2.2⟩
        refine hK.out _ _ hT4 (fun _ => ?_)
        clear hK hb
        have hU4 : Below u.heap.size u y4 ∧ Row y4 (some ⟨g1, 0, none⟩) (List.replicate nK 0) ∧ y4.heap[g9]? = some (.cells rz.cells 23 (0, 0)) ∧ Row y4 (some ⟨g4, 0, none⟩) (List.replicate nV 0) := ⟨hT4.1, hT4.2.1, hT4.2.2, hw⟩
        refine lat_strong (S' := fun y => Below u.heap.size u y ∧ Row y (some ⟨g1, 0, none⟩) (List.replicate nK 0) ∧ y.heap[g9]? = some (.cells rz.cells 23 (0, 0)) ∧ Row y (some ⟨g4, 0, none⟩) (List.replicate nV 0)) (fun y h => ⟨h.1, h.2.1, h.2.2.1⟩) ?_
        clear hw hT4 hU9
        try simp only [Act.put, List.setIfInBounds_toArray, List.set_cons_zero, List.set_cons_succ]
        refine lat_take 5 (v := ?_) rfl (by kernel_rfl) (by kernel_rfl) (by kernel_rfl) (by kernel_rfl) (fun _ _ _ h => h) (by rfl) ?_ (by assumption) ?_
        rotate_left
        · (intro w hSw; have kc := conv_row nV hSw.2.2.2; rw [List.length_replicate] at kc; go_simp <;> with_reducible rfl)
        try simp only [Act.put, List.setIfInBounds_toArray, List.set_cons_zero, List.set_cons_succ]
        refine lat_take 8 (v := ?_) rfl (by kernel_rfl) (by kernel_rfl) (by kernel_rfl) (by kernel_rfl) (fun _ _ _ h => h) (by rfl) ?_ (by assumption) ?_
        rotate_left
        · (intro w hSw; have _k := hSw; go_simp <;> with_reducible rfl)
        try simp only [Act.put, List.setIfInBounds_toArray, List.set_cons_zero, List.set_cons_succ]
        refine lat_last 10 rfl (by kernel_rfl) (by decide) (by kernel_rfl) (by rfl) (fun K hK => ?_)
        refine wp_store_row 23 _ _ rfl g9 (Rc.cells ⟨true, strN (List.replicate nK 0), true, strN (List.replicate nV 0), a2, a3⟩) rfl rfl 23 rz.cells hU4.2.2.1 Try.info23 rfl (rc_one _) ?_
        refine hK.out _ _ ?_
        clear hK
        try simp only [Act.put, List.setIfInBounds_toArray, List.set_cons_zero, List.set_cons_succ]
        go_wp2_with fail
        go_meet
        case rel => exact ⟨g9, rfl, setRow_heap _ _ _ _ _ _ hU4.2.2.1, below_setRow hU4.1 hge _⟩
    · refine wp_make _ _ rfl nV rfl rfl (by omega) ?_
      have hb := below_box (w := y0) (.cells (cv (List.replicate nV 0)).toArray 5)
      have hw := row_alloc y0 (List.replicate nV 0) (rep_lt nV)
      obtain ⟨g4, hg4⟩ : ∃ g, g = y0.heap.size := ⟨_, rfl⟩
      rw [← hg4] at hw ⊢
      generalize y0.alloc (.cells (cv (List.replicate nV 0)).toArray 5) = y4 at hb hw ⊢
      clear hg4
      have hT4 : Below u.heap.size u y4 := hHeld.trans (hb.mono hHeld.size)
      refine hK.out _ _ hT4 (fun _ => ?_)
      clear hK hb
      have hU4 : Below u.heap.size u y4 ∧ Row y4 (some ⟨g4, 0, none⟩) (List.replicate nV 0) := ⟨hT4, hw⟩
      refine lat_strong (S' := fun y => Below u.heap.size u y ∧ Row y (some ⟨g4, 0, none⟩) (List.replicate nV 0)) (fun y h => h.1) ?_
      clear hw hT4 hHeld
      try simp only [Act.put, List.setIfInBounds_toArray, List.set_cons_zero, List.set_cons_succ]
      refine lat_take 5 (v := ?_) rfl (by kernel_rfl) (by kernel_rfl) (by kernel_rfl) (by kernel_rfl) (fun _ _ _ h => h) (by rfl) ?_ (by assumption) ?_
      rotate_left
      · (intro w hSw; have kc := conv_row nV hSw.2; rw [List.length_replicate] at kc; go_simp <;> with_reducible rfl)
      try simp only [Act.put, List.setIfInBounds_toArray, List.set_cons_zero, List.set_cons_succ]
      refine lat_two 1 9 rfl rfl (by kernel_rfl) (by decide) (by decide) (by rfl) (by rfl) (fun K hK => ?_) (fun K hK => ?_)
      · refine wp_make _ _ rfl nK rfl rfl (by omega) ?_
        have hb := below_box (w := y4) (.cells (cv (List.replicate nK 0)).toArray 5)
        have hw := row_alloc y4 (List.replicate nK 0) (rep_lt nK)
        obtain ⟨g1, hg1⟩ : ∃ g, g = y4.heap.size := ⟨_, rfl⟩
        rw [← hg1] at hw ⊢
        generalize y4.alloc (.cells (cv (List.replicate nK 0)).toArray 5) = y1 at hb hw ⊢
        clear hg1
        have hT1 : Below u.heap.size u y1 ∧ Row y1 (some ⟨g4, 0, none⟩) (List.replicate nV 0) := ⟨hU4.1.trans (hb.mono hU4.1.size), hU4.2.below hb⟩
        refine hK.out _ _ hT1 (fun _ => ?_)
        clear hK hb
        have hU1 : Below u.heap.size u y1 ∧ Row y1 (some ⟨g4, 0, none⟩) (List.replicate nV 0) ∧ Row y1 (some ⟨g1, 0, none⟩) (List.replicate nK 0) := ⟨hT1.1, hT1.2, hw⟩
        refine lat_strong (S' := fun y => Below u.heap.size u y ∧ Row y (some ⟨g4, 0, none⟩) (List.replicate nV 0) ∧ Row y (some ⟨g1, 0, none⟩) (List.replicate nK 0)) (fun y h => ⟨h.1, h.2.1⟩) ?_
        clear hw hT1 hU4
        try simp only [Act.put, List.setIfInBounds_toArray, List.set_cons_zero, List.set_cons_succ]
        refine lat_take 2 (v := ?_) rfl (by kernel_rfl) (by kernel_rfl) (by kernel_rfl) (by kernel_rfl) (fun _ _ _ h => h) (by rfl) ?_ (by assumption) ?_
        rotate_left
        · (intro w hSw; have kc := conv_row nK hSw.2.2; rw [List.length_replicate] at kc; go_simp <;> with_reducible rfl)
        try simp only [Act.put, List.setIfInBounds_toArray, List.set_cons_zero, List.set_cons_succ]
        refine lat_take 8 (v := ?_) rfl (by kernel_rfl) (by kernel_rfl) (by kernel_rfl) (by kernel_rfl) (fun _ _ _ h => h) (by rfl) ?_ (by assumption) ?_
        rotate_left
        · (intro w hSw; have _k := hSw; go_simp <;> with_reducible rfl)
        try simp only [Act.put, List.setIfInBounds_toArray, List.set_cons_zero, List.set_cons_succ]
        refine lat_one 9 rfl (by kernel_rfl) (by decide) (by rfl) (fun K hK => ?_)
        go_simp
        have hb := below_box (w := y1) (.cells rz.cells 23)
        have hw := zero_box y1
        have hge : u.heap.size ≤ y1.heap.size := hU1.1.size
        obtain ⟨g9, hg9⟩ : ∃ g, g = y1.heap.size := ⟨_, rfl⟩
        rw [← hg9] at hge hw ⊢
        change K _ (y1.alloc (.cells rz.cells 23))
        generalize y1.alloc (.cells rz.cells 23) = y9 at hb hw ⊢
        clear hg9
        have hT9 : Below u.heap.size u y9 ∧ Row y9 (some ⟨g4, 0, none⟩) (List.replicate nV 0) ∧ Row y9 (some ⟨g1, 0, none⟩) (List.replicate nK 0) := ⟨hU1.1.trans (hb.mono hU1.1.size), hU1.2.1.below hb, hU1.2.2.below hb⟩
        refine hK.out _ _ hT9 (fun _ => ?_)
        clear hK hb
        have hU9 : Below u.heap.size u y9 ∧ Row y9 (some ⟨g4, 0, none⟩) (List.replicate nV 0) ∧ Row y9 (some ⟨g1, 0, none⟩) (List.replicate nK 0) ∧ y9.heap[g9]? = some (.cells rz.cells 23 (0, 0)) := ⟨hT9.1, hT9.2.1, hT9.2.2, hw⟩
        refine lat_strong (S' := fun y => Below u.heap.size u y ∧ Row y (some ⟨g4, 0, none⟩) (List.replicate nV 0) ∧ Row y (some ⟨g1, 0, none⟩) (List.replicate nK 0) ∧ y.heap[g9]? = some (.cells rz.cells 23 (0, 0))) (fun y h => ⟨h.1, h.2.1, h.2.2.1⟩) ?_
        clear hw hT9 hU1
        try simp only [Act.put, List.setIfInBounds_toArray, List.set_cons_zero, List.set_cons_succ]
        refine lat_last 10 rfl (by kernel_rfl) (by decide) (by kernel_rfl) (by rfl) (fun K hK => ?_)
        refine wp_store_row 23 _ _ rfl g9 (Rc.cells ⟨true, strN (List.replicate nK 0), true, strN (List.replicate nV 0), a2, a3⟩) rfl rfl 23 rz.cells hU9.2.2.2 Try.info23 rfl (rc_one _) ?_
        refine hK.out _ _ ?_
        clear hK
        try simp only [Act.put, List.setIfInBounds_toArray, List.set_cons_zero, List.set_cons_succ]
        go_wp2_with fail
        go_meet
        case rel => exact ⟨g9, rfl, setRow_heap _ _ _ _ _ _ hU9.2.2.2, below_setRow hU9.1 hge _⟩
      · go_simp
        have hb := below_box (w := y4) (.cells rz.cells 23)
        have hw := zero_box y4
        have hge : u.heap.size ≤ y4.heap.size := hU4.1.size
        obtain ⟨g9, hg9⟩ : ∃ g, g = y4.heap.size := ⟨_, rfl⟩
        rw [← hg9] at hge hw ⊢
        change K _ (y4.alloc (.cells rz.cells 23))
        generalize y4.alloc (.cells rz.cells 23) = y9 at hb hw ⊢
        clear hg9
        have hT9 : Below u.heap.size u y9 ∧ Row y9 (some ⟨g4, 0, none⟩) (List.replicate nV 0) := ⟨hU4.1.trans (hb.mono hU4.1.size), hU4.2.below hb⟩
        refine hK.out _ _ hT9 (fun _ => ?_)
        clear hK hb
        have hU9 : Below u.heap.size u y9 ∧ Row y9 (some ⟨g4, 0, none⟩) (List.replicate nV 0) ∧ y9.heap[g9]? = some (.cells rz.cells 23 (0, 0)) := ⟨hT9.1, hT9.2, hw⟩
        refine lat_strong (S' := fun y => Below u.heap.size u y ∧ Row y (some ⟨g4, 0, none⟩) (List.replicate nV 0) ∧ y.heap[g9]? = some (.cells rz.cells 23 (0, 0))) (fun y h => ⟨h.1, h.2.1⟩) ?_
        clear hw hT9 hU4
        try simp only [Act.put, List.setIfInBounds_toArray, List.set_cons_zero, List.set_cons_succ]
        refine lat_one 1 rfl (by kernel_rfl) (by decide) (by rfl) (fun K hK => ?_)
        refine wp_make _ _ rfl nK rfl rfl (by omega) ?_
        have hb := below_box (w := y9) (.cells (cv (List.replicate nK 0)).toArray 5)
        have hw := row_alloc y9 (List.replicate nK 0) (rep_lt nK)
        obtain ⟨g1, hg1⟩ : ∃ g, g = y9.heap.size := ⟨_, rfl⟩
        rw [← hg1] at hw ⊢
        generalize y9.alloc (.cells (cv (List.replicate nK 0)).toArray 5) = y1 at hb hw ⊢
        clear hg1
        have hT1 : Below u.heap.size u y1 ∧ Row y1 (some ⟨g4, 0, none⟩) (List.replicate nV 0) ∧ y1.heap[g9]? = some (.cells rz.cells 23 (0, 0)) := ⟨hU9.1.trans (hb.mono hU9.1.size), hU9.2.1.below hb, (hb.block _ (Array.getElem?_eq_some_iff.1 hU9.2.2).1).trans hU9.2.2⟩
        refine hK.out _ _ hT1 (fun _ => ?_)
        clear hK hb
        have hU1 : Below u.heap.size u y1 ∧ Row y1 (some ⟨g4, 0, none⟩) (List.replicate nV 0) ∧ y1.heap[g9]? = some (.cells rz.cells 23 (0, 0)) ∧ Row y1 (some ⟨g1, 0, none⟩) (List.replicate nK 0) := ⟨hT1.1, hT1.2.1, hT1.2.2, hw⟩
        refine lat_strong (S' := fun y => Below u.heap.size u y ∧ Row y (some ⟨g4, 0, none⟩) (List.replicate nV 0) ∧ y.heap[g9]? = some (.cells rz.cells 23 (0, 0)) ∧ Row y (some ⟨g1, 0, none⟩) (List.replicate nK 0)) (fun y h => ⟨h.1, h.2.1, h.2.2.1⟩) ?_
        clear hw hT1 hU9
        try simp only [Act.put, List.setIfInBounds_toArray, List.set_cons_zero, List.set_cons_succ]
        refine lat_take 2 (v := ?_) rfl (by kernel_rfl) (by kernel_rfl) (by kernel_rfl) (by kernel_rfl) (fun _ _ _ h => h) (by rfl) ?_ (by assumption) ?_
        rotate_left
        · (intro w hSw; have kc := conv_row nK hSw.2.2.2; rw [List.length_replicate] at kc; go_simp <;> with_reducible rfl)
        try simp only [Act.put, List.setIfInBounds_toArray, List.set_cons_zero, List.set_cons_succ]
        refine lat_take 8 (v := ?_) rfl (by kernel_rfl) (by kernel_rfl) (by kernel_rfl) (by kernel_rfl) (fun _ _ _ h => h) (by rfl) ?_ (by assumption) ?_
        rotate_left
        · (intro w hSw; have _k := hSw; go_simp <;> with_reducible rfl)
        try simp only [Act.put, List.setIfInBounds_toArray, List.set_cons_zero, List.set_cons_succ]
        refine lat_last 10 rfl (by kernel_rfl) (by decide) (by kernel_rfl) (by rfl) (fun K hK => ?_)
        refine wp_store_row 23 _ _ rfl g9 (Rc.cells ⟨true, strN (List.replicate nK 0), true, strN (List.replicate nV 0), a2, a3⟩) rfl rfl 23 rz.cells hU1.2.2.1 Try.info23 rfl (rc_one _) ?_
        refine hK.out _ _ ?_
        clear hK
        try simp only [Act.put, List.setIfInBounds_toArray, List.set_cons_zero, List.set_cons_succ]
        go_wp2_with fail
        go_meet
        case rel => exact ⟨g9, rfl, setRow_heap _ _ _ _ _ _ hU1.2.2.1, below_setRow hU1.1 hge _⟩
    · go_simp
      have hb := below_box (w := y0) (.cells rz.cells 23)
      have hw := zero_box y0
      have hge : u.heap.size ≤ y0.heap.size := hHeld.size
      obtain ⟨g9, hg9⟩ : ∃ g, g = y0.heap.size := ⟨_, rfl⟩
      rw [← hg9] at hge hw ⊢
      change K _ (y0.alloc (.cells rz.cells 23))
      generalize y0.alloc (.cells rz.cells 23) = y9 at hb hw ⊢
      clear hg9
      have hT9 : Below u.heap.size u y9 := hHeld.trans (hb.mono hHeld.size)
      refine hK.out _ _ hT9 (fun _ => ?_)
      clear hK hb
      have hU9 : Below u.heap.size u y9 ∧ y9.heap[g9]? = some (.cells rz.cells 23 (0, 0)) := ⟨hT9, hw⟩
      refine lat_strong (S' := fun y => Below u.heap.size u y ∧ y.heap[g9]? = some (.cells rz.cells 23 (0, 0))) (fun y h => h.1) ?_
      clear hw hT9 hHeld
      try simp only [Act.put, List.setIfInBounds_toArray, List.set_cons_zero, List.set_cons_succ]
      refine lat_two 1 4 rfl rfl (by kernel_rfl) (by decide) (by decide) (by rfl) (by rfl) (fun K hK => ?_) (fun K hK => ?_)
      · refine wp_make _ _ rfl nK rfl rfl (by omega) ?_
        have hb := below_box (w := y9) (.cells (cv (List.replicate nK 0)).toArray 5)
        have hw := row_alloc y9 (List.replicate nK 0) (rep_lt nK)
        obtain ⟨g1, hg1⟩ : ∃ g, g = y9.heap.size := ⟨_, rfl⟩
        rw [← hg1] at hw ⊢
        generalize y9.alloc (.cells (cv (List.replicate nK 0)).toArray 5) = y1 at hb hw ⊢
        clear hg1
        have hT1 : Below u.heap.size u y1 ∧ y1.heap[g9]? = some (.cells rz.cells 23 (0, 0)) := ⟨hU9.1.trans (hb.mono hU9.1.size), (hb.block _ (Array.getElem?_eq_some_iff.1 hU9.2).1).trans hU9.2⟩
        refine hK.out _ _ hT1 (fun _ => ?_)
        clear hK hb
        have hU1 : Below u.heap.size u y1 ∧ y1.heap[g9]? = some (.cells rz.cells 23 (0, 0)) ∧ Row y1 (some ⟨g1, 0, none⟩) (List.replicate nK 0) := ⟨hT1.1, hT1.2, hw⟩
        refine lat_strong (S' := fun y => Below u.heap.size u y ∧ y.heap[g9]? = some (.cells rz.cells 23 (0, 0)) ∧ Row y (some ⟨g1, 0, none⟩) (List.replicate nK 0)) (fun y h => ⟨h.1, h.2.1⟩) ?_
        clear hw hT1 hU9
        try simp only [Act.put, List.setIfInBounds_toArray, List.set_cons_zero, List.set_cons_succ]
        refine lat_take 2 (v := ?_) rfl (by kernel_rfl) (by kernel_rfl) (by kernel_rfl) (by kernel_rfl) (fun _ _ _ h => h) (by rfl) ?_ (by assumption) ?_
        rotate_left
        · (intro w hSw; have kc := conv_row nK hSw.2.2; rw [List.length_replicate] at kc; go_simp <;> with_reducible rfl)
        try simp only [Act.put, List.setIfInBounds_toArray, List.set_cons_zero, List.set_cons_succ]
        refine lat_one 4 rfl (by kernel_rfl) (by decide) (by rfl) (fun K hK => ?_)
        refine wp_make _ _ rfl nV rfl rfl (by omega) ?_
        have hb := below_box (w := y1) (.cells (cv (List.replicate nV 0)).toArray 5)
        have hw := row_alloc y1 (List.replicate nV 0) (rep_lt nV)
        obtain ⟨g4, hg4⟩ : ∃ g, g = y1.heap.size := ⟨_, rfl⟩
        rw [← hg4] at hw ⊢
        generalize y1.alloc (.cells (cv (List.replicate nV 0)).toArray 5) = y4 at hb hw ⊢
        clear hg4
        have hT4 : Below u.heap.size u y4 ∧ y4.heap[g9]? = some (.cells rz.cells 23 (0, 0)) ∧ Row y4 (some ⟨g1, 0, none⟩) (List.replicate nK 0) := ⟨hU1.1.trans (hb.mono hU1.1.size), (hb.block _ (Array.getElem?_eq_some_iff.1 hU1.2.1).1).trans hU1.2.1, hU1.2.2.below hb⟩
        refine hK.out _ _ hT4 (fun _ => ?_)
        clear hK hb
        have hU4 : Below u.heap.size u y4 ∧ y4.heap[g9]? = some (.cells rz.cells 23 (0, 0)) ∧ Row y4 (some ⟨g1, 0, none⟩) (List.replicate nK 0) ∧ Row y4 (some ⟨g4, 0, none⟩) (List.replicate nV 0) := ⟨hT4.1, hT4.2.1, hT4.2.2, hw⟩
        refine lat_strong (S' := fun y => Below u.heap.size u y ∧ y.heap[g9]? = some (.cells rz.cells 23 (0, 0)) ∧ Row y (some ⟨g1, 0, none⟩) (List.replicate nK 0) ∧ Row y (some ⟨g4, 0, none⟩) (List.replicate nV 0)) (fun y h => ⟨h.1, h.2.1, h.2.2.1⟩) ?_
        clear hw hT4 hU1
        try simp only [Act.put, List.setIfInBounds_toArray, List.set_cons_zero, List.set_cons_succ]
        refine lat_take 5 (v := ?_) rfl (by kernel_rfl) (by kernel_rfl) (by kernel_rfl) (by kernel_rfl) (fun _ _ _ h => h) (by rfl) ?_ (by assumption) ?_
        rotate_left
        · (intro w hSw; have kc := conv_row nV hSw.2.2.2; rw [List.length_replicate] at kc; go_simp <;> with_reducible rfl)
        try simp only [Act.put, List.setIfInBounds_toArray, List.set_cons_zero, List.set_cons_succ]
        refine lat_take 8 (v := ?_) rfl (by kernel_rfl) (by kernel_rfl) (by kernel_rfl) (by kernel_rfl) (fun _ _ _ h => h) (by rfl) ?_ (by assumption) ?_
        rotate_left
        · (intro w hSw; have _k := hSw; go_simp <;> with_reducible rfl)
        try simp only [Act.put, List.setIfInBounds_toArray, List.set_cons_zero, List.set_cons_succ]
        refine lat_last 10 rfl (by kernel_rfl) (by decide) (by kernel_rfl) (by rfl) (fun K hK => ?_)
        refine wp_store_row 23 _ _ rfl g9 (Rc.cells ⟨true, strN (List.replicate nK 0), true, strN (List.replicate nV 0), a2, a3⟩) rfl rfl 23 rz.cells hU4.2.1 Try.info23 rfl (rc_one _) ?_
        refine hK.out _ _ ?_
        clear hK
        try simp only [Act.put, List.setIfInBounds_toArray, List.set_cons_zero, List.set_cons_succ]
        go_wp2_with fail
        go_meet
        case rel => exact ⟨g9, rfl, setRow_heap _ _ _ _ _ _ hU4.2.1, below_setRow hU4.1 hge _⟩
      · refine wp_make _ _ rfl nV rfl rfl (by omega) ?_
        have hb := below_box (w := y9) (.cells (cv (List.replicate nV 0)).toArray 5)
        have hw := row_alloc y9 (List.replicate nV 0) (rep_lt nV)
        obtain ⟨g4, hg4⟩ : ∃ g, g = y9.heap.size := ⟨_, rfl⟩
        rw [← hg4] at hw ⊢
        generalize y9.alloc (.cells (cv (List.replicate nV 0)).toArray 5) = y4 at hb hw ⊢
        clear hg4
        have hT4 : Below u.heap.size u y4 ∧ y4.heap[g9]? = some (.cells rz.cells 23 (0, 0)) := ⟨hU9.1.trans (hb.mono hU9.1.size), (hb.block _ (Array.getElem?_eq_some_iff.1 hU9.2).1).trans hU9.2⟩
        refine hK.out _ _ hT4 (fun _ => ?_)
        clear hK hb
        have hU4 : Below u.heap.size u y4 ∧ y4.heap[g9]? = some (.cells rz.cells 23 (0, 0)) ∧ Row y4 (some ⟨g4, 0, none⟩) (List.replicate nV 0) := ⟨hT4.1, hT4.2, hw⟩
        refine lat_strong (S' := fun y => Below u.heap.size u y ∧ y.heap[g9]? = some (.cells rz.cells 23 (0, 0)) ∧ Row y (some ⟨g4, 0, none⟩) (List.replicate nV 0)) (fun y h => ⟨h.1, h.2.1⟩) ?_
        clear hw hT4 hU9
        try simp only [Act.put, List.setIfInBounds_toArray, List.set_cons_zero, List.set_cons_succ]
        refine lat_take 5 (v := ?_) rfl (by kernel_rfl) (by kernel_rfl) (by kernel_rfl) (by kernel_rfl) (fun _ _ _ h => h) (by rfl) ?_ (by assumption) ?_
        rotate_left
        · (intro w hSw; have kc := conv_row nV hSw.2.2; rw [List.length_replicate] at kc; go_simp <;> with_reducible rfl)
        try simp only [Act.put, List.setIfInBounds_toArray, List.set_cons_zero, List.set_cons_succ]
        refine lat_one 1 rfl (by kernel_rfl) (by decide) (by rfl) (fun K hK => ?_)
        refine wp_make _ _ rfl nK rfl rfl (by omega) ?_
        have hb := below_box (w := y4) (.cells (cv (List.replicate nK 0)).toArray 5)
        have hw := row_alloc y4 (List.replicate nK 0) (rep_lt nK)
        obtain ⟨g1, hg1⟩ : ∃ g, g = y4.heap.size := ⟨_, rfl⟩
        rw [← hg1] at hw ⊢
        generalize y4.alloc (.cells (cv (List.replicate nK 0)).toArray 5) = y1 at hb hw ⊢
        clear hg1
        have hT1 : Below u.heap.size u y1 ∧ y1.heap[g9]? = some (.cells rz.cells 23 (0, 0)) ∧ Row y1 (some ⟨g4, 0, none⟩) (List.replicate nV 0) := ⟨hU4.1.trans (hb.mono hU4.1.size), (hb.block _ (Array.getElem?_eq_some_iff.1 hU4.2.1).1).trans hU4.2.1, hU4.2.2.below hb⟩
        refine hK.out _ _ hT1 (fun _ => ?_)
        clear hK hb
        have hU1 : Below u.heap.size u y1 ∧ y1.heap[g9]? = some (.cells rz.cells 23 (0, 0)) ∧ Row y1 (some ⟨g4, 0, none⟩) (List.replicate nV 0) ∧ Row y1 (some ⟨g1, 0, none⟩) (List.replicate nK 0) := ⟨hT1.1, hT1.2.1, hT1.2.2, hw⟩
        refine lat_strong (S' := fun y => Below u.heap.size u y ∧ y.heap[g9]? = some (.cells rz.cells 23 (0, 0)) ∧ Row y (some ⟨g4, 0, none⟩) (List.replicate nV 0) ∧ Row y (some ⟨g1, 0, none⟩) (List.replicate nK 0)) (fun y h => ⟨h.1, h.2.1, h.2.2.1⟩) ?_
        clear hw hT1 hU4
        try simp only [Act.put, List.setIfInBounds_toArray, List.set_cons_zero, List.set_cons_succ]
        refine lat_take 2 (v := ?_) rfl (by kernel_rfl) (by kernel_rfl) (by kernel_rfl) (by kernel_rfl) (fun _ _ _ h => h) (by rfl) ?_ (by assumption) ?_
        rotate_left
        · (intro w hSw; have kc := conv_row nK hSw.2.2.2; rw [List.length_replicate] at kc; go_simp <;> with_reducible rfl)
        try simp only [Act.put, List.setIfInBounds_toArray, List.set_cons_zero, List.set_cons_succ]
        refine lat_take 8 (v := ?_) rfl (by kernel_rfl) (by kernel_rfl) (by kernel_rfl) (by kernel_rfl) (fun _ _ _ h => h) (by rfl) ?_ (by assumption) ?_
        rotate_left
        · (intro w hSw; have _k := hSw; go_simp <;> with_reducible rfl)
        try simp only [Act.put, List.setIfInBounds_toArray, List.set_cons_zero, List.set_cons_succ]
        refine lat_last 10 rfl (by kernel_rfl) (by decide) (by kernel_rfl) (by rfl) (fun K hK => ?_)
        refine wp_store_row 23 _ _ rfl g9 (Rc.cells ⟨true, strN (List.replicate nK 0), true, strN (List.replicate nV 0), a2, a3⟩) rfl rfl 23 rz.cells hU1.2.1 Try.info23 rfl (rc_one _) ?_
        refine hK.out _ _ ?_
        clear hK
        try simp only [Act.put, List.setIfInBounds_toArray, List.set_cons_zero, List.set_cons_succ]
        go_wp2_with fail
        go_meet
        case rel => exact ⟨g9, rfl, setRow_heap _ _ _ _ _ _ hU1.2.1, below_setRow hU1.1 hge _⟩
  case rest =>
    obtain ⟨g, rfl, hbx, hbw⟩ := hcut
    obtain ⟨e0, e1, e2, e3, e4, e5⟩ := box_cells hbx
    simp only at e0 e1 e2 e3 e4 e5
    have HC : Hid _ := check_any ⟨true, strN (List.replicate nK 0), true, strN (List.replicate nV 0), a2, a3⟩
    have HE : Hid _ := encode_any ⟨true, strN (List.replicate nK 0), true, strN (List.replicate nV 0), a2, a3⟩ 0
    obtain ⟨c1, c2, c3⟩ := lim_chk nK nV a2 a3
    simp only [Rc.cells] at HC HE
    by_cases h1 : a2 < 0
    · rw [c1 (.inl h1)] at HC
      go_wp2_with (first
        | (go_at_call 14; refine (HC.out _).mono ?_; rintro e w1 ⟨rfl, hb1⟩; have hB1 := hbw.trans (hb1.mono hbw.size))
        | (go_at_call 10; refine (HA.out _).mono ?_; rintro e w5 ⟨rfl, hb5⟩))
      go_ret
      exact ⟨rfl, hB1.trans (hb5.mono hB1.size)⟩
    by_cases h2 : 1125899906842624 < a2
    · rw [c1 (.inr (.inl h2))] at HC
      go_wp2_with (first
        | (go_at_call 14; refine (HC.out _).mono ?_; rintro e w1 ⟨rfl, hb1⟩; have hB1 := hbw.trans (hb1.mono hbw.size))
        | (go_at_call 10; refine (HA.out _).mono ?_; rintro e w5 ⟨rfl, hb5⟩))
      go_ret
      exact ⟨rfl, hB1.trans (hb5.mono hB1.size)⟩
    by_cases h3 : a3 < 0
    · rw [c1 (.inr (.inr (.inl h3)))] at HC
      go_wp2_with (first
        | (go_at_call 14; refine (HC.out _).mono ?_; rintro e w1 ⟨rfl, hb1⟩; have hB1 := hbw.trans (hb1.mono hbw.size))
        | (go_at_call 10; refine (HA.out _).mono ?_; rintro e w5 ⟨rfl, hb5⟩))
      go_ret
      exact ⟨rfl, hB1.trans (hb5.mono hB1.size)⟩
    by_cases h4 : 99 < a3
    · rw [c1 (.inr (.inr (.inr h4)))] at HC
      go_wp2_with (first
        | (go_at_call 14; refine (HC.out _).mono ?_; rintro e w1 ⟨rfl, hb1⟩; have hB1 := hbw.trans (hb1.mono hbw.size))
        | (go_at_call 10; refine (HA.out _).mono ?_; rintro e w5 ⟨rfl, hb5⟩))
      go_ret
      exact ⟨rfl, hB1.trans (hb5.mono hB1.size)⟩
    have hok : 0 ≤ a2 ∧ a2 ≤ 1125899906842624 ∧ 0 ≤ a3 ∧ a3 ≤ 99 := by omega
    by_cases h5 : 2000 < (nK : Int)
    · rw [c2 hok (.inl h5)] at HC
      go_wp2_with (first
        | (go_at_call 14; refine (HC.out _).mono ?_; rintro e w1 ⟨rfl, hb1⟩; have hB1 := hbw.trans (hb1.mono hbw.size))
        | (go_at_call 10; refine (HA.out _).mono ?_; rintro e w5 ⟨rfl, hb5⟩))
      go_ret
      exact ⟨rfl, hB1.trans (hb5.mono hB1.size)⟩
    by_cases h6 : 2000 < (nV : Int)
    · rw [c2 hok (.inr h6)] at HC
      go_wp2_with (first
        | (go_at_call 14; refine (HC.out _).mono ?_; rintro e w1 ⟨rfl, hb1⟩; have hB1 := hbw.trans (hb1.mono hbw.size))
        | (go_at_call 10; refine (HA.out _).mono ?_; rintro e w5 ⟨rfl, hb5⟩))
      go_ret
      exact ⟨rfl, hB1.trans (hb5.mono hB1.size)⟩
    · have hz := c3 hok (by omega) (by omega)
      have hE0 : encE ⟨true, strN (List.replicate nK 0), true, strN (List.replicate nV 0), a2, a3⟩ 0 = 0 := by unfold encE; rw [hz]; rfl
      have hR0 := (enc_ok hE0).1
      have hlen := lim_len nK nV a2 a3
      have HLT : Hid _ := encL_lt ⟨true, strN (List.replicate nK 0), true, strN (List.replicate nV 0), a2, a3⟩ 0 hz (by decide)
      rw [hz] at HC
      rw [hE0, hR0] at HE
      generalize encL ⟨true, strN (List.replicate nK 0), true, strN (List.replicate nV 0), a2, a3⟩ 0 = L at *
      have hlI : (nK : Int) + (nV : Int) + 5 ≤ (L.length : Int) := by omega
      clear hz hE0 hR0 c1 c2 c3
      go_wp2_with (first
        | (go_at_call 14; refine (HC.out _).mono ?_; rintro e w1 ⟨rfl, hb1⟩; have hB1 := hbw.trans (hb1.mono hbw.size); have hbx1 := (hb1.block _ (Array.getElem?_eq_some_iff.1 hbx).1).trans hbx; obtain ⟨d0, d1, d2, d3, d4, d5⟩ := box_cells hbx1; simp only at d0 d1 d2 d3 d4 d5)
        | (go_at_call 11; refine (HE.out _).mono ?_; rintro e w2 ⟨x, rfl, hown, hb2⟩; obtain ⟨a7, c7, rfl, _, _⟩ := owns_sl hown HLT.out; clear hown; have hB2 := hB1.trans (hb2.mono hB1.size))
        | (go_at_call 10; refine (HA.out _).mono ?_; rintro e w5 ⟨rfl, hb5⟩))
      go_ret
      exact ⟨rfl, hB2.trans (hb5.mono hB2.size)⟩
theorem nat_of {a : Int} (h : 0 ≤ a) : ∃ m : Nat, a = (m : Int) := Int.eq_ofNat_of_zero_le h
set_option maxRecDepth 100000 in
theorem recordLimits_walk (a0 a1 a2 a3 : Int) (w : World) (w0 : (Lit.int .i64 a0).wf = true) (w1 : (Lit.int .i64 a1).wf = true) (w2 : (Lit.int .i64 a2).wf = true) (w3 : (Lit.int .i64 a3).wf = true) :
    Calls Try.prog 7 #[.int .i64 a0, .int .i64 a1, .int .i64 a2, .int .i64 a3] w fun e w' => e = .returned (.bool true) ∧ Below w.heap.size w w' := by
  have HA : Hid _ := awake_any
  obtain ⟨b0, b1⟩ := bd64 w2
  obtain ⟨b2, b3⟩ := bd64 w3
  clear w0 w1 w2 w3
  by_cases h1 : a0 < 0
  · go_enter Try.func7, Try.ntmps7
    go_wp2_with (go_at_call 10; refine (HA.out _).mono ?_; rintro e w5 ⟨rfl, hb5⟩)
    go_ret
    exact ⟨rfl, hb5⟩
  by_cases h2 : 2100 < a0
  · go_enter Try.func7, Try.ntmps7
    go_wp2_with (go_at_call 10; refine (HA.out _).mono ?_; rintro e w5 ⟨rfl, hb5⟩)
    go_ret
    exact ⟨rfl, hb5⟩
  by_cases h3 : a1 < 0
  · go_enter Try.func7, Try.ntmps7
    go_wp2_with (go_at_call 10; refine (HA.out _).mono ?_; rintro e w5 ⟨rfl, hb5⟩)
    go_ret
    exact ⟨rfl, hb5⟩
  by_cases h4 : 2100 < a1
  · go_enter Try.func7, Try.ntmps7
    go_wp2_with (go_at_call 10; refine (HA.out _).mono ?_; rintro e w5 ⟨rfl, hb5⟩)
    go_ret
    exact ⟨rfl, hb5⟩
  · obtain ⟨nK, rfl⟩ := nat_of (show 0 ≤ a0 by omega)
    obtain ⟨nV, rfl⟩ := nat_of (show 0 ≤ a1 by omega)
    exact limits_in nK nV a2 a3 w (by omega) (by omega) b0 b1 b2 b3
end Go.Proofs.Ythfcefmkcgjfcaa
