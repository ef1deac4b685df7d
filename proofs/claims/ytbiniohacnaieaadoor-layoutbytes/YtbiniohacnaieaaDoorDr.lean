/- The document's own Decode. -/
import Derived.Test.YtbiniohacnaieaaDoorDe
namespace Go.Proofs.YtbiniohacnaieaaDoor
set_option linter.unusedSimpArgs false
set_option linter.unusedVariables false
open Go.RowKit
theorem lat_skip {P : Program} {L : List Oper} {Q : Exit → Act → World → Prop} {md : Region.Mode} {S : World → Prop} {n : Nat} (i : Nat) {o : Oper} {r : List Oper} {f : Nat} {l : Array Bool} {a : Act} {w : World} (hi : L.drop i = o :: r) (hsel : Region.noSelect L.toArray = true)
    (hs : (Region.sinkB md L.toArray n && Region.chainB md L.toArray n && decide (n < L.toArray.size) && decide (i < n)) = true) (hf : Region.free md L.toArray l i = true) (hr : (Region.ready md L.toArray l).contains i = true)
    (hQ : ∀ c a w, Q (.panic c) (a.put o.dst undef) w → Q (.panic c) a w) (hw : Region.wanted o (yielded L.toArray a.tmps) = false) (hS : S w)
    (h : LatI P md L.toArray Q S n f (l.setIfInBounds i true) (a.put o.dst undef) w) : LatI P md L.toArray Q S n (f + 1) l a w := LatI.take (drop_at hi) hsel hs hf hr hQ (.inr ⟨hw, rfl⟩) hS h
set_option maxRecDepth 100000 in
theorem rdecode_in (a : Option Addr) (cap : Nat) (l : List Nat) (w : World) (hr : Row w a l) (p : Pl) (c N I : Nat) (hN : N < 4294967296) (hI : I < 4294967296) (b1 b2 : Bool)
    (G1 : Hid (∀ w', Row w' a l → Calls Tryd.prog 24 #[.slice a l.length cap, .int .i64 8, .int .i64 4, .bool false] w' fun e w2 => e = .returned (.tuple #[.int .u64 (N : Int), .bool b1]) ∧ w2 = w'))
    (G2 : Hid (∀ w', Row w' a l → Calls Tryd.prog 24 #[.slice a l.length cap, .int .i64 12, .int .i64 4, .bool false] w' fun e w2 => e = .returned (.tuple #[.int .u64 (I : Int), .bool b2]) ∧ w2 = w'))
    (GM : Hid (∀ w', Calls Tryd.prog 10 #[.int .i64 (N : Int), .int .i64 (I : Int)] w' fun e w2 => e = .returned (.tuple #[p.v, .int .i64 (c : Int)]) ∧ Below w'.heap.size w' w2)) (R : Value)
    (HBB : Hid ((b1 = false ∨ b2 = false) → ¬ c = 0))
    (HR : Hid (R = if c = 0 ∧ encL (nums p) = l then .tuple #[p.v, .int .i64 0] else .tuple #[z7.v, .int .i64 10])) :
    Calls Tryd.prog 13 #[.slice a l.length cap] w fun e w' => e = .returned R ∧ Below w.heap.size w w' := by
  have wN : IntKind.i64.wrap (N : Int) = N := by rw [IntKind.wrap_i64]; omega
  have wI : IntKind.i64.wrap (I : Int) = I := by rw [IntKind.wrap_i64]; omega
  have tok2 : True := trivial
  have hra : ∀ o, Row (w.alloc o) a l := fun o => hr.below ((Below.refl _ _).alloc (Nat.le_refl _) _)
  by_cases hbb : b1 = false ∨ b2 = false
  · have hRR : R = .tuple #[.agg (pv z7), .int .i64 10] := by rw [HR.out, if_neg (fun q => HBB.out hbb q.1)]; rfl
    subst hRR
    rcases b1 with _ | _
    · go_enter Tryd.func13, Tryd.ntmps13
      go_wp2_with (first
        | (go_at_call 24; have _t := tok2; refine (G1.out _ (hra _)).mono ?_; clear tok2 _t; rintro e v1 ⟨rfl, hw⟩; subst v1)
        | (go_at_call 24; refine (G2.out _ (hra _)).mono ?_; rintro e v1 ⟨rfl, hw⟩; subst v1))
      refine bodyPost_ret (v := .tuple #[.agg (pv z7), .int .i64 10]) ?_ rfl ⟨rfl, ?_⟩
      · exact results_plan (p := 2) (u := 3) (by rfl) _ _ w.heap.size z7 _ (by rfl) (by rfl) (heap_alloc_new w _)
      · exact (Below.refl _ _).alloc (Nat.le_refl _) _
    · have hb2 : b2 = false := by rcases hbb with h | h; cases h; exact h
      subst hb2
      go_enter Tryd.func13, Tryd.ntmps13
      go_wp2_with (first
        | (go_at_call 24; have _t := tok2; refine (G1.out _ (hra _)).mono ?_; clear tok2 _t; rintro e v1 ⟨rfl, hw⟩; subst v1)
        | (go_at_call 24; refine (G2.out _ (hra _)).mono ?_; rintro e v1 ⟨rfl, hw⟩; subst v1))
      refine bodyPost_ret (v := .tuple #[.agg (pv z7), .int .i64 10]) ?_ rfl ⟨rfl, ?_⟩
      · exact results_plan (p := 2) (u := 3) (by rfl) _ _ w.heap.size z7 _ (by rfl) (by rfl) (heap_alloc_new w _)
      · exact (Below.refl _ _).alloc (Nat.le_refl _) _
  · obtain ⟨rfl, rfl⟩ : b1 = true ∧ b2 = true := by
      cases b1 <;> cases b2 <;> simp_all
    clear hbb HBB
    by_cases hc : c = 0
    · subst hc
      obtain ⟨p1, p2, p3, p4, p5, p6, p7⟩ := p
      have HE : Hid _ := rencode_any ⟨p1, p2, p3, p4, p5, p6, p7⟩
      obtain ⟨E, HEE⟩ : ∃ E, Hid (encL (nums ⟨p1, p2, p3, p4, p5, p6, p7⟩) = E) := ⟨_, rfl⟩
      have HB : Hid (∀ i, E.getD i 0 < 256) := by rw [← HEE.out]; exact encL_lt _
      have hEl : E.length = 512 := by rw [← HEE.out, encL_len]
      rw [HEE.out] at HE HR
      have HSE : Hid (((strN E).toList == (strN l).toList) = decide (E = l)) := str_eq E l (mem_lt HB.out) hr.bd
      have HC1 : Hid (∀ g cp w', Row w' (some ⟨g, 0, none⟩) E → (convert 31 9 (.slice (some ⟨g, 0, none⟩) 512 cp)).run Tryd.prog w' = .ok (.string (strN E)) w') := fun g cp w' h => by
        have := conv_row cp h
        rw [hEl] at this
        exact this
      have HC2 : Hid (∀ w', Row w' a l → (convert 31 9 (.slice a l.length cap)).run Tryd.prog w' = .ok (.string (strN l)) w') := fun w' h => conv_row cap h
      simp only [Pl.v] at HE
      generalize strN E = sE at *
      generalize strN l = sl at *
      by_cases hq : E = l
      · have hRR : R = .tuple #[.agg (pv ⟨p1, p2, p3, p4, p5, p6, p7⟩), .int .i64 0] := by rw [HR.out, if_pos ⟨rfl, hq⟩]; rfl
        subst hRR
        rw [decide_eq_true hq] at HSE
        have hse := HSE.out
        clear hq hEl
        go_enter Tryd.func13, Tryd.ntmps13
        go_wp2_with (first
          | (go_at_call 24; have _t := tok2; refine (G1.out _ (hra _)).mono ?_; clear tok2 _t; rintro e v1 ⟨rfl, hw⟩; subst v1)
          | (go_at_call 24; refine (G2.out _ (hra _)).mono ?_; rintro e v1 ⟨rfl, hw⟩; subst v1)
          | (go_at_call 10; refine (GM.out _).mono ?_; rintro e v1 ⟨rfl, hb1⟩; have HF : Hid _ := made_box hb1 (.cells (pv ⟨p1, p2, p3, p4, p5, p6, p7⟩) 23); clear hb1; simp only [Pl.v]))
        have hS0 : BoxAt (v1.alloc (.cells (pv ⟨p1, p2, p3, p4, p5, p6, p7⟩) 23)).drew v1.heap.size ⟨p1, p2, p3, p4, p5, p6, p7⟩ ∧ (convert 31 9 (.slice a l.length cap)).run Tryd.prog (v1.alloc (.cells (pv ⟨p1, p2, p3, p4, p5, p6, p7⟩) 23)).drew = .ok (.string sl) (v1.alloc (.cells (pv ⟨p1, p2, p3, p4, p5, p6, p7⟩) 23)).drew := ⟨(box_new v1 ⟨p1, p2, p3, p4, p5, p6, p7⟩).drewN 1, HC2.out _ ((hr.below HF.out.2.2.1).drewN 1)⟩
        refine wp_region_lat (fun y => BoxAt y v1.heap.size ⟨p1, p2, p3, p4, p5, p6, p7⟩ ∧ (convert 31 9 (.slice a l.length cap)).run Tryd.prog y = .ok (.string sl) y) 9 (by kernel_rfl) hS0 (fun hHeld => ?_)
        refine lat_take 0 (v := ?_) rfl (by kernel_rfl) (by kernel_rfl) (by kernel_rfl) (by kernel_rfl) (fun _ _ _ h => h) (by rfl) ?_ (by assumption) ?_
        rotate_left
        · (intro w hSw; obtain ⟨⟨z0, z1, z2, z3, z4, z5, z6⟩, zk⟩ := hSw; go_simp <;> with_reducible rfl)
        try simp only [Act.put, List.setIfInBounds_toArray, List.set_cons_zero, List.set_cons_succ]
        refine lat_take 1 (v := ?_) rfl (by kernel_rfl) (by kernel_rfl) (by kernel_rfl) (by kernel_rfl) (fun _ _ _ h => h) (by rfl) ?_ (by assumption) ?_
        rotate_left
        · (intro w hSw; obtain ⟨⟨z0, z1, z2, z3, z4, z5, z6⟩, zk⟩ := hSw; go_simp <;> with_reducible rfl)
        try simp only [Act.put, List.setIfInBounds_toArray, List.set_cons_zero, List.set_cons_succ]
        refine lat_take 2 (v := ?_) rfl (by kernel_rfl) (by kernel_rfl) (by kernel_rfl) (by kernel_rfl) (fun _ _ _ h => h) (by rfl) ?_ (by assumption) ?_
        rotate_left
        · (intro w hSw; obtain ⟨⟨z0, z1, z2, z3, z4, z5, z6⟩, zk⟩ := hSw; go_simp <;> with_reducible rfl)
        try simp only [Act.put, List.setIfInBounds_toArray, List.set_cons_zero, List.set_cons_succ]
        refine lat_take 3 (v := ?_) rfl (by kernel_rfl) (by kernel_rfl) (by kernel_rfl) (by kernel_rfl) (fun _ _ _ h => h) (by rfl) ?_ (by assumption) ?_
        rotate_left
        · (intro w hSw; obtain ⟨⟨z0, z1, z2, z3, z4, z5, z6⟩, zk⟩ := hSw; go_simp <;> with_reducible rfl)
        try simp only [Act.put, List.setIfInBounds_toArray, List.set_cons_zero, List.set_cons_succ]
        refine lat_take 6 (v := ?_) rfl (by kernel_rfl) (by kernel_rfl) (by kernel_rfl) (by kernel_rfl) (fun _ _ _ h => h) (by rfl) ?_ (by assumption) ?_
        rotate_left
        · (intro w hSw; obtain ⟨⟨z0, z1, z2, z3, z4, z5, z6⟩, zk⟩ := hSw; go_simp <;> with_reducible rfl)
        try simp only [Act.put, List.setIfInBounds_toArray, List.set_cons_zero, List.set_cons_succ]
        refine lat_take 7 (v := ?_) rfl (by kernel_rfl) (by kernel_rfl) (by kernel_rfl) (by kernel_rfl) (fun _ _ _ h => h) (by rfl) ?_ (by assumption) ?_
        rotate_left
        · (intro w hSw; obtain ⟨⟨z0, z1, z2, z3, z4, z5, z6⟩, zk⟩ := hSw; go_simp <;> with_reducible rfl)
        try simp only [Act.put, List.setIfInBounds_toArray, List.set_cons_zero, List.set_cons_succ]
        refine lat_one 4 rfl (by kernel_rfl) (by decide) (by rfl) (fun K hK => ?_)
        go_simp
        refine Calls.mono (HE.out _) ?_
        rintro e v2 ⟨⟨g, cp, rfl, hown⟩, hb2⟩
        have hb2' : Below (v1.alloc (.cells (pv ⟨p1, p2, p3, p4, p5, p6, p7⟩) 23)).heap.size (v1.alloc (.cells (pv ⟨p1, p2, p3, p4, p5, p6, p7⟩) 23)) v2 := ⟨hb2.os, hb2.tape, hb2.output, hb2.size, hb2.block⟩
        have HF2 : Hid _ := made_box2 HF.out hb2'
        have k1 := HC1.out g cp v2 (hown.row HB.out)
        have k2 := HC2.out v2 (hr.below HF2.out.2.2)
        dsimp only
        refine hK.out _ _ ⟨(box_new v1 ⟨p1, p2, p3, p4, p5, p6, p7⟩).below hb2', k2⟩ (fun hHeld2 => ?_)
        clear hK hHeld hb2 hown hS0
        try simp only [Act.put, List.setIfInBounds_toArray, List.set_cons_zero, List.set_cons_succ]
        refine lat_one 5 rfl (by kernel_rfl) (by decide) (by rfl) (fun K hK => ?_)
        go_simp
        refine hK.out _ _ hHeld2 (fun hHeld3 => ?_)
        clear hK hHeld2
        try simp only [Act.put, List.setIfInBounds_toArray, List.set_cons_zero, List.set_cons_succ]
        refine lat_take 8 (v := ?_) rfl (by kernel_rfl) (by kernel_rfl) (by kernel_rfl) (by kernel_rfl) (fun _ _ _ h => h) (by rfl) ?_ (by assumption) ?_
        rotate_left
        · (intro w hSw; obtain ⟨⟨z0, z1, z2, z3, z4, z5, z6⟩, zk⟩ := hSw; go_simp <;> with_reducible rfl)
        try simp only [Act.put, List.setIfInBounds_toArray, List.set_cons_zero, List.set_cons_succ]
        refine lat_last 9 rfl (by kernel_rfl) (by decide) (by kernel_rfl) (by rfl) (fun K hK => ?_)
        go_simp
        refine hK.out _ _ ?_
        clear hK hHeld3 hb2'
        try simp only [Act.put, List.setIfInBounds_toArray, List.set_cons_zero, List.set_cons_succ]
        go_wp2_with (first
          | (have _t := HF2; refine wpList_load_row rfl 23 _ rfl v1.heap.size rfl 23 (pv ⟨p1, p2, p3, p4, p5, p6, p7⟩) (0, 0) _ HF2.out.2.1 Tryd.underlying23 rfl Tryd.info23 ?_)
          | (have _t := HF2; refine wpList_store_row rfl 23 _ _ rfl w.heap.size (pv ⟨p1, p2, p3, p4, p5, p6, p7⟩) rfl rfl 23 (pv z7) HF2.out.1 Tryd.info23 rfl (pv_one _) ?_))
        refine bodyPost_ret (v := .tuple #[.agg (pv ⟨p1, p2, p3, p4, p5, p6, p7⟩), .int .i64 0]) ?_ rfl ⟨rfl, ?_⟩
        · exact results_plan (p := 2) (u := 3) (by rfl) _ _ w.heap.size ⟨p1, p2, p3, p4, p5, p6, p7⟩ _ (by rfl) (by rfl) (setRow_heap _ _ _ _ _ _ HF2.out.1)
        · exact below_setRow HF2.out.2.2 (Nat.le_refl _) _
      · have hRR : R = .tuple #[.agg (pv z7), .int .i64 10] := by rw [HR.out, if_neg (fun c => hq c.2)]; rfl
        subst hRR
        rw [decide_eq_false hq] at HSE
        have hse := HSE.out
        clear hq hEl
        go_enter Tryd.func13, Tryd.ntmps13
        go_wp2_with (first
          | (go_at_call 24; have _t := tok2; refine (G1.out _ (hra _)).mono ?_; clear tok2 _t; rintro e v1 ⟨rfl, hw⟩; subst v1)
          | (go_at_call 24; refine (G2.out _ (hra _)).mono ?_; rintro e v1 ⟨rfl, hw⟩; subst v1)
          | (go_at_call 10; refine (GM.out _).mono ?_; rintro e v1 ⟨rfl, hb1⟩; have HF : Hid _ := made_box hb1 (.cells (pv ⟨p1, p2, p3, p4, p5, p6, p7⟩) 23); clear hb1; simp only [Pl.v]))
        have hS0 : BoxAt (v1.alloc (.cells (pv ⟨p1, p2, p3, p4, p5, p6, p7⟩) 23)).drew v1.heap.size ⟨p1, p2, p3, p4, p5, p6, p7⟩ ∧ (convert 31 9 (.slice a l.length cap)).run Tryd.prog (v1.alloc (.cells (pv ⟨p1, p2, p3, p4, p5, p6, p7⟩) 23)).drew = .ok (.string sl) (v1.alloc (.cells (pv ⟨p1, p2, p3, p4, p5, p6, p7⟩) 23)).drew := ⟨(box_new v1 ⟨p1, p2, p3, p4, p5, p6, p7⟩).drewN 1, HC2.out _ ((hr.below HF.out.2.2.1).drewN 1)⟩
        refine wp_region_lat (fun y => BoxAt y v1.heap.size ⟨p1, p2, p3, p4, p5, p6, p7⟩ ∧ (convert 31 9 (.slice a l.length cap)).run Tryd.prog y = .ok (.string sl) y) 9 (by kernel_rfl) hS0 (fun hHeld => ?_)
        refine lat_take 0 (v := ?_) rfl (by kernel_rfl) (by kernel_rfl) (by kernel_rfl) (by kernel_rfl) (fun _ _ _ h => h) (by rfl) ?_ (by assumption) ?_
        rotate_left
        · (intro w hSw; obtain ⟨⟨z0, z1, z2, z3, z4, z5, z6⟩, zk⟩ := hSw; go_simp <;> with_reducible rfl)
        try simp only [Act.put, List.setIfInBounds_toArray, List.set_cons_zero, List.set_cons_succ]
        refine lat_take 1 (v := ?_) rfl (by kernel_rfl) (by kernel_rfl) (by kernel_rfl) (by kernel_rfl) (fun _ _ _ h => h) (by rfl) ?_ (by assumption) ?_
        rotate_left
        · (intro w hSw; obtain ⟨⟨z0, z1, z2, z3, z4, z5, z6⟩, zk⟩ := hSw; go_simp <;> with_reducible rfl)
        try simp only [Act.put, List.setIfInBounds_toArray, List.set_cons_zero, List.set_cons_succ]
        refine lat_take 2 (v := ?_) rfl (by kernel_rfl) (by kernel_rfl) (by kernel_rfl) (by kernel_rfl) (fun _ _ _ h => h) (by rfl) ?_ (by assumption) ?_
        rotate_left
        · (intro w hSw; obtain ⟨⟨z0, z1, z2, z3, z4, z5, z6⟩, zk⟩ := hSw; go_simp <;> with_reducible rfl)
        try simp only [Act.put, List.setIfInBounds_toArray, List.set_cons_zero, List.set_cons_succ]
        refine lat_take 3 (v := ?_) rfl (by kernel_rfl) (by kernel_rfl) (by kernel_rfl) (by kernel_rfl) (fun _ _ _ h => h) (by rfl) ?_ (by assumption) ?_
        rotate_left
        · (intro w hSw; obtain ⟨⟨z0, z1, z2, z3, z4, z5, z6⟩, zk⟩ := hSw; go_simp <;> with_reducible rfl)
        try simp only [Act.put, List.setIfInBounds_toArray, List.set_cons_zero, List.set_cons_succ]
        refine lat_take 6 (v := ?_) rfl (by kernel_rfl) (by kernel_rfl) (by kernel_rfl) (by kernel_rfl) (fun _ _ _ h => h) (by rfl) ?_ (by assumption) ?_
        rotate_left
        · (intro w hSw; obtain ⟨⟨z0, z1, z2, z3, z4, z5, z6⟩, zk⟩ := hSw; go_simp <;> with_reducible rfl)
        try simp only [Act.put, List.setIfInBounds_toArray, List.set_cons_zero, List.set_cons_succ]
        refine lat_take 7 (v := ?_) rfl (by kernel_rfl) (by kernel_rfl) (by kernel_rfl) (by kernel_rfl) (fun _ _ _ h => h) (by rfl) ?_ (by assumption) ?_
        rotate_left
        · (intro w hSw; obtain ⟨⟨z0, z1, z2, z3, z4, z5, z6⟩, zk⟩ := hSw; go_simp <;> with_reducible rfl)
        try simp only [Act.put, List.setIfInBounds_toArray, List.set_cons_zero, List.set_cons_succ]
        refine lat_one 4 rfl (by kernel_rfl) (by decide) (by rfl) (fun K hK => ?_)
        go_simp
        refine Calls.mono (HE.out _) ?_
        rintro e v2 ⟨⟨g, cp, rfl, hown⟩, hb2⟩
        have hb2' : Below (v1.alloc (.cells (pv ⟨p1, p2, p3, p4, p5, p6, p7⟩) 23)).heap.size (v1.alloc (.cells (pv ⟨p1, p2, p3, p4, p5, p6, p7⟩) 23)) v2 := ⟨hb2.os, hb2.tape, hb2.output, hb2.size, hb2.block⟩
        have HF2 : Hid _ := made_box2 HF.out hb2'
        have k1 := HC1.out g cp v2 (hown.row HB.out)
        have k2 := HC2.out v2 (hr.below HF2.out.2.2)
        dsimp only
        refine hK.out _ _ ⟨(box_new v1 ⟨p1, p2, p3, p4, p5, p6, p7⟩).below hb2', k2⟩ (fun hHeld2 => ?_)
        clear hK hHeld hb2 hown hS0
        try simp only [Act.put, List.setIfInBounds_toArray, List.set_cons_zero, List.set_cons_succ]
        refine lat_one 5 rfl (by kernel_rfl) (by decide) (by rfl) (fun K hK => ?_)
        go_simp
        refine hK.out _ _ hHeld2 (fun hHeld3 => ?_)
        clear hK hHeld2
        try simp only [Act.put, List.setIfInBounds_toArray, List.set_cons_zero, List.set_cons_succ]
        refine lat_take 8 (v := ?_) rfl (by kernel_rfl) (by kernel_rfl) (by kernel_rfl) (by kernel_rfl) (fun _ _ _ h => h) (by rfl) ?_ (by assumption) ?_
        rotate_left
        · (intro w hSw; obtain ⟨⟨z0, z1, z2, z3, z4, z5, z6⟩, zk⟩ := hSw; go_simp <;> with_reducible rfl)
        try simp only [Act.put, List.setIfInBounds_toArray, List.set_cons_zero, List.set_cons_succ]
        refine lat_last 9 rfl (by kernel_rfl) (by decide) (by kernel_rfl) (by rfl) (fun K hK => ?_)
        go_simp
        refine hK.out _ _ ?_
        clear hK hHeld3 hb2'
        try simp only [Act.put, List.setIfInBounds_toArray, List.set_cons_zero, List.set_cons_succ]
        go_wp2_with (first
          | (have _t := HF2; refine wpList_store_row rfl 23 _ _ rfl w.heap.size (pv z7) rfl rfl 23 (pv z7) HF2.out.1 Tryd.info23 rfl (pv_one _) ?_))
        refine bodyPost_ret (v := .tuple #[.agg (pv z7), .int .i64 10]) ?_ rfl ⟨rfl, ?_⟩
        · exact results_plan (p := 2) (u := 3) (by rfl) _ _ w.heap.size z7 _ (by rfl) (by rfl) (setRow_heap _ _ _ _ _ _ HF2.out.1)
        · exact below_setRow HF2.out.2.2 (Nat.le_refl _) _
    · have hcc : ((c : Int) != 0) = true := by rw [bne_iff_ne]; omega
      have hRR : R = .tuple #[.agg (pv z7), .int .i64 10] := by rw [HR.out, if_neg (fun q => hc q.1)]; rfl
      subst hRR
      clear hc
      obtain ⟨p1, p2, p3, p4, p5, p6, p7⟩ := p
      go_enter Tryd.func13, Tryd.ntmps13
      go_wp2_with (first
        | (go_at_call 24; have _t := tok2; refine (G1.out _ (hra _)).mono ?_; clear tok2 _t; rintro e v1 ⟨rfl, hw⟩; subst v1)
        | (go_at_call 24; refine (G2.out _ (hra _)).mono ?_; rintro e v1 ⟨rfl, hw⟩; subst v1)
        | (go_at_call 10; refine (GM.out _).mono ?_; rintro e v1 ⟨rfl, hb1⟩; have HF : Hid _ := made_box hb1 (.cells (pv ⟨p1, p2, p3, p4, p5, p6, p7⟩) 23); clear hb1; simp only [Pl.v]))
      refine wp_region_lat (fun _ => True) 9 (by kernel_rfl) trivial (fun hHeld => ?_)
      refine lat_take 0 (v := ?_) rfl (by kernel_rfl) (by kernel_rfl) (by kernel_rfl) (by kernel_rfl) (fun _ _ _ h => h) (by rfl) ?_ trivial ?_
      rotate_left
      · (intro w hSw; go_simp <;> with_reducible rfl)
      try simp only [Act.put, List.setIfInBounds_toArray, List.set_cons_zero, List.set_cons_succ]
      refine lat_take 1 (v := ?_) rfl (by kernel_rfl) (by kernel_rfl) (by kernel_rfl) (by kernel_rfl) (fun _ _ _ h => h) (by rfl) ?_ trivial ?_
      rotate_left
      · (intro w hSw; go_simp <;> with_reducible rfl)
      try simp only [Act.put, List.setIfInBounds_toArray, List.set_cons_zero, List.set_cons_succ]
      refine lat_take 2 (v := ?_) rfl (by kernel_rfl) (by kernel_rfl) (by kernel_rfl) (by kernel_rfl) (fun _ _ _ h => h) (by rfl) ?_ trivial ?_
      rotate_left
      · (intro w hSw; go_simp <;> with_reducible rfl)
      try simp only [Act.put, List.setIfInBounds_toArray, List.set_cons_zero, List.set_cons_succ]
      refine lat_skip 3 rfl (by kernel_rfl) (by kernel_rfl) (by kernel_rfl) (by kernel_rfl) (fun _ _ _ h => h) (by rfl) trivial ?_
      try simp only [Act.put, List.setIfInBounds_toArray, List.set_cons_zero, List.set_cons_succ]
      refine lat_skip 4 rfl (by kernel_rfl) (by kernel_rfl) (by kernel_rfl) (by kernel_rfl) (fun _ _ _ h => h) (by rfl) trivial ?_
      try simp only [Act.put, List.setIfInBounds_toArray, List.set_cons_zero, List.set_cons_succ]
      refine lat_skip 5 rfl (by kernel_rfl) (by kernel_rfl) (by kernel_rfl) (by kernel_rfl) (fun _ _ _ h => h) (by rfl) trivial ?_
      try simp only [Act.put, List.setIfInBounds_toArray, List.set_cons_zero, List.set_cons_succ]
      refine lat_skip 6 rfl (by kernel_rfl) (by kernel_rfl) (by kernel_rfl) (by kernel_rfl) (fun _ _ _ h => h) (by rfl) trivial ?_
      try simp only [Act.put, List.setIfInBounds_toArray, List.set_cons_zero, List.set_cons_succ]
      refine lat_skip 7 rfl (by kernel_rfl) (by kernel_rfl) (by kernel_rfl) (by kernel_rfl) (fun _ _ _ h => h) (by rfl) trivial ?_
      try simp only [Act.put, List.setIfInBounds_toArray, List.set_cons_zero, List.set_cons_succ]
      refine lat_skip 8 rfl (by kernel_rfl) (by kernel_rfl) (by kernel_rfl) (by kernel_rfl) (fun _ _ _ h => h) (by rfl) trivial ?_
      try simp only [Act.put, List.setIfInBounds_toArray, List.set_cons_zero, List.set_cons_succ]
      refine lat_last 9 rfl (by kernel_rfl) (by decide) (by kernel_rfl) (by rfl) (fun K hK => ?_)
      go_simp
      refine hK.out _ _ ?_
      clear hK hHeld
      try simp only [Act.put, List.setIfInBounds_toArray, List.set_cons_zero, List.set_cons_succ]
      have HG : Hid ((v1.alloc (.cells (pv ⟨p1, p2, p3, p4, p5, p6, p7⟩) 23)).drew.heap[w.heap.size]? = some (.cells (pv z7) 23 (0, 0)) ∧ Below w.heap.size w (v1.alloc (.cells (pv ⟨p1, p2, p3, p4, p5, p6, p7⟩) 23)).drew) := ⟨HF.out.1, HF.out.2.2.1.drew⟩
      go_wp2_with (refine wpList_store_row rfl 23 _ _ rfl w.heap.size (pv z7) rfl rfl 23 (pv z7) HG.out.1 Tryd.info23 rfl (pv_one _) ?_)
      refine bodyPost_ret (v := .tuple #[.agg (pv z7), .int .i64 10]) ?_ rfl ⟨rfl, ?_⟩
      · exact results_plan (p := 2) (u := 3) (by rfl) _ _ w.heap.size z7 _ (by rfl) (by rfl) (setRow_heap _ _ _ _ _ _ HG.out.1)
      · exact below_setRow HG.out.2 (Nat.le_refl _) _
theorem rdecode_any (a : Option Addr) (cap : Nat) (l : List Nat) (w : World) (hr : Row w a l) (hl : l.length ≤ 2000) :
    Calls Tryd.prog 13 #[.slice a l.length cap] w fun e w' => e = .returned (.tuple #[(decP l).v, .int .i64 (decE l)]) ∧ Below w.heap.size w w' := by
  refine rdecode_in a cap l w hr (mkP (gv l 8) (gv l 12)) (mkE (gv l 8) (gv l 12)).toNat (gv l 8) (gv l 12) (gv_lt l 8 hr.lt) (gv_lt l 12 hr.lt) (decide (8 + 4 ≤ l.length)) (decide (12 + 4 ≤ l.length)) (fun w' h => rget4_any a cap l 8 w' h hl (by omega)) (fun w' h => rget4_any a cap l 12 w' h hl (by omega)) (fun w' => ?_) _ ?_ (dec_R l)
  · rw [mkE_nat]
    exact rmake_any _ _ w'
  · rintro (h | h)
    · have h8 : gv l 8 = 0 := by unfold gv; rw [if_neg (of_decide_eq_false h)]
      have : mkE (gv l 8) (gv l 12) = 1 := by unfold mkE; rw [if_neg (fun q => by have := q.1; omega)]
      rw [this]; decide
    · have h8 : gv l 12 = 0 := by unfold gv; rw [if_neg (of_decide_eq_false h)]
      have : mkE (gv l 8) (gv l 12) = 1 := by unfold mkE; rw [if_neg (fun q => by have := q.2.2.1; omega)]
      rw [this]; decide
end Go.Proofs.YtbiniohacnaieaaDoor
