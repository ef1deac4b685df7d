/- CacheWhole's walk; printed by wip/tools/mk5w.py. -/
import Derived.Test.YtohncckmennfbaaDoorCx
namespace Go.Proofs.YtohncckmennfbaaDoor
set_option linter.unusedSimpArgs false
set_option linter.unusedVariables false
set_option maxRecDepth 100000
open Go.RowKit Go.MapKept Go.Proofs
open Go.ChangeMaps (setBlock heap_setBlock_same heap_setBlock_other)
theorem wrapIn (z : Int) : In64 (IntKind.i64.wrap z) := by
  unfold In64
  simp only [IntKind.wrap, IntKind.bits, IntKind.signed]
  simp
  omega
theorem wrapIn2 (z : Int) : In64 (wrap64 z) := by
  unfold In64 wrap64
  omega
theorem ovW2 (W : World) : Below W.heap.size W ((W.alloc (.cells Tryd.zeroCells29 29)).alloc (.cells Tryd.zeroCells29 29)) ∧ StB ((W.alloc (.cells Tryd.zeroCells29 29)).alloc (.cells Tryd.zeroCells29 29)) W.heap.size z80 ∧ StB ((W.alloc (.cells Tryd.zeroCells29 29)).alloc (.cells Tryd.zeroCells29 29)) (W.heap.size + 1) z80 ∧ ((W.alloc (.cells Tryd.zeroCells29 29)).alloc (.cells Tryd.zeroCells29 29)).heap.size = W.heap.size + 2 := by
  rw [z29]
  have s1 : (W.alloc (.cells (av z80) 29)).heap.size = W.heap.size + 1 := by show (W.heap.push _).size = _; simp
  have s2 : ((W.alloc (.cells (av z80) 29)).alloc (.cells (av z80) 29)).heap.size = W.heap.size + 2 := by show ((W.heap.push _).push _).size = _; simp
  have b1 : Below W.heap.size W (W.alloc (.cells (av z80) 29)) := (Below.refl _ _).alloc (Nat.le_refl _) _
  have b2 : Below W.heap.size W ((W.alloc (.cells (av z80) 29)).alloc (.cells (av z80) 29)) := b1.alloc b1.size _
  refine ⟨b2, ?_, ?_, s2⟩
  · exact (Below.heap_alloc _ _ _ (by omega)).trans (heap_alloc_new W _)
  · have := heap_alloc_new (W.alloc (.cells (av z80) 29)) (.cells (av z80) 29)
    rw [s1] at this
    exact this
set_option maxHeartbeats 4000000 in
theorem cacheWhole_walk (a0 : Option Addr) (cap0 : Nat) (l0 : List Stp) (a1 : Int) (a2 : Option Addr) (cap2 : Nat) (l2 : List Int) (w : World) (ht : Tab w) (w0 : SRow w a0 l0) (m0 : l0.length ≤ 9223372036854775807) (w1 : (Lit.int .i64 a1).wf = true) (w2 : RowI w a2 l2) (m2 : l2.length ≤ maxLen) :
    Calls Tryd.prog 5 #[.slice a0 l0.length cap0, .int .i64 a1, .slice a2 l2.length cap2] w fun e w' => e = .returned (.bool true) ∧ Below w.heap.size w w' := by
  have hF := Fr.law ht
  have HF : Hid _ := fresh_any hF
  obtain ⟨y1, y2⟩ := bd64 w1
  unfold maxLen at m2
  have m0I : (l0.length : Int) ≤ 9223372036854775807 := by omega
  have m2I : (l2.length : Int) ≤ 9223372036854775807 := by omega
  by_cases hb0 : 60 < l0.length
  · have hbI : (60 : Int) < (l0.length : Int) := by omega
    clear HF ht w0 w2
    go_enter Tryd.func5, Tryd.ntmps5
    go_wp2_with (go_at_call 9; refine (awake_any hF).mono ?_; rintro e w4 ⟨rfl, hF4⟩)
    go_ret
    exact ⟨rfl, hF4.bel⟩
  have hbI : ¬ (60 : Int) < (l0.length : Int) := by omega
  have h60I : (l0.length : Int) ≤ 60 := by omega
  by_cases hb2 : 200 < l2.length
  · have hb2I : (200 : Int) < (l2.length : Int) := by omega
    clear HF ht w0 w2
    go_enter Tryd.func5, Tryd.ntmps5
    go_wp2_with (go_at_call 9; refine (awake_any hF).mono ?_; rintro e w4 ⟨rfl, hF4⟩)
    go_ret
    exact ⟨rfl, hF4.bel⟩
  have hb2I : ¬ (200 : Int) < (l2.length : Int) := by omega
  by_cases hc0 : a1 < 0
  · skip
    clear HF ht w0 w2
    go_enter Tryd.func5, Tryd.ntmps5
    go_wp2_with (go_at_call 9; refine (awake_any hF).mono ?_; rintro e w4 ⟨rfl, hF4⟩)
    go_ret
    exact ⟨rfl, hF4.bel⟩
  by_cases hc1 : 3000 < a1
  · skip
    clear HF ht w0 w2
    go_enter Tryd.func5, Tryd.ntmps5
    go_wp2_with (go_at_call 9; refine (awake_any hF).mono ?_; rintro e w4 ⟨rfl, hF4⟩)
    go_ret
    exact ⟨rfl, hF4.bel⟩
  have HW0 : Hid (SRow w a0 l0) := w0
  have HW2 : Hid (RowI w a2 l2) := w2
  have HM2 : Hid (l2.length ≤ 9223372036854775807) := by show _ ≤ _; omega
  clear ht hF w0 w2
  go_enter Tryd.func5, Tryd.ntmps5
  go_wp2_with (first
    | (go_at_call 10; refine Calls.mono HF.out ?_; rintro e w2 ⟨dp, c, rfl, hS2⟩)
    | (go_at_call 22; refine (hS2.cutC a1 (by omega)).mono ?_; rintro e w3 ⟨⟨v3, rfl⟩, hS3⟩; clear hS2))
  obtain ⟨o1, o2, o3, o5⟩ := ovW2 w3
  have hB4 : WS w.heap.size w [w3.heap.size, w3.heap.size + 1] ((w3.alloc (.cells Tryd.zeroCells29 29)).alloc (.cells Tryd.zeroCells29 29)) c dp 3 zs0 none := hS3.boxes o1 _ (fun x hx => by rw [o5]; simp only [List.mem_cons, List.not_mem_nil, or_false] at hx; rcases hx with rfl | rfl <;> exact ⟨by omega, by omega⟩)
  have HA0 : Hid (WAt w ((w3.alloc (.cells Tryd.zeroCells29 29)).alloc (.cells Tryd.zeroCells29 29)) c dp (3 + 395 * 0) w3.heap.size zs0 none z80 z80) := ⟨hB4, tells0, tells0.1, (fun q => by cases q), o2, o3⟩
  clear hB4 o1 o2 o3 o5 hS3 HF
  go_loopw [12, 13] (fun dn i wr => ∃ k, k ≤ l0.length ∧ i = .int .i64 ((k : Nat) : Int) ∧ ((dn = .bool false ∧ ∃ V ss ts, WAt w wr c dp (3 + 395 * k) w3.heap.size V none ss ts) ∨ (dn = .bool true ∧ ∃ ss ts, WOff w wr dp w3.heap.size ss ts))) (fun _ i _ => l0.length - (intOf i).toNat)
  case atStart => exact ⟨0, by omega, rfl, .inl ⟨rfl, _, _, _, HA0.out⟩⟩
  case round =>
    clear HA0
    obtain ⟨k, hk, rfl, hor⟩ := hrel
    rcases hor with ⟨rfl, V, ss, ts, hA⟩ | ⟨rfl, ss, ts, hO⟩
    · by_cases hlt : k < l0.length
      · have hltI : (k : Int) < (l0.length : Int) := by omega
        have hm9 : 3 + 395 * k ≤ 900000 := by omega
        obtain ⟨lk, off, hla, r0, _, _, _, iB, iV⟩ := HW0.out k hlt
        have HRW : Hid (∀ w', Below w.heap.size w w' → w'.cell? ⟨lk, off + k * 3 + 1, none⟩ = some (.int .i64 (l0.getD k stp0).b) ∧ w'.cell? ⟨lk, off + k * 3 + 2, none⟩ = some (.int .i64 (l0.getD k stp0).v)) := fun w' hb => by
          obtain ⟨lk', off', hla', _, q1, q2, _⟩ := (HW0.out.below hb) k hlt
          rw [hla] at hla'
          injection hla' with q
          injection q with y1 y2
          subst y1; subst y2
          exact ⟨q1, q2⟩
        subst hla
        generalize l0.getD k stp0 = sp at *
        clear r0
        obtain ⟨Kz, Bz, Vz⟩ := sp
        dsimp only at HRW iB iV
        have HR1 : Hid (∀ z w', In64 z → Calls Tryd.prog 11 #[.int .i64 z, .int .i64 80] w' fun e w'' => ∃ K : Nat, e = .returned (.int .i64 (K : Int)) ∧ K < 80 ∧ w'' = w') := fun z w' hz => (round_any z 80 w' hz.1 hz.2 (by omega) (by omega)).mono fun e w'' ⟨h1, h2⟩ => ⟨rd z 80, h1, rd_lt z 80 (by omega), h2⟩
        have HR2 : Hid (∀ w', Calls Tryd.prog 11 #[.int .i64 Vz, .int .i64 250] w' fun e w'' => e = .returned (.int .i64 ((rd Vz 250 : Nat) : Int)) ∧ w'' = w') := fun w' => round_any Vz 250 w' iV.1 iV.2 (by omega) (by omega)
        have hV2 := rd_lt Vz 250 (by omega)
        generalize rd Vz 250 = Vr at *
        have hVI : (Vr : Int) < 250 := by omega
        have HIB : Hid (In64 Bz) := iB
        clear iB iV
        have P0 := hA
        clear hA
        go_wp2_with (first
          | (go_at_call 12; refine P0.ws.begin.mono ?_; rintro e w5 ⟨rfl, b5, s5⟩; obtain ⟨z1, z2, P5⟩ := P0.begun b5 s5; have z3 := P0.tln; have z4 := P0.stl.1)
          | (have _h := z1; refine wpList_load_row rfl 29 _ rfl w3.heap.size rfl 29 (av ss) (0, 0) _ z1 Tryd.underlying29 rfl (info29 ss z4) ?_; clear _h z1)
          | (have _h := z2; refine wpList_store_row rfl 29 _ _ rfl (w3.heap.size + 1) (av ss) rfl rfl 29 (av ts) z2 (info29 ss z4) (by rw [av_size, av_size, z3, z4]) (av_one ss) ?_; clear _h z2))
        have HP5 : Hid _ := P5
        clear P5 P0 b5 s5
        go_loopw [14] (fun q wq => ∃ n hl f tt, n ≤ 5 ∧ q = .int .i64 ((n : Nat) : Int) ∧ hl.length ≤ n ∧ WAt w wq c dp (3 + 395 * k) w3.heap.size V (some (hl, f)) ss tt) (fun q _ => 5 - (intOf q).toNat)
        case atStart => exact ⟨0, [], _, _, by omega, rfl, by simp, HP5.out⟩
        case round =>
          clear HP5
          obtain ⟨n, hl, f, tt, hn, rfl, hhl, hQ⟩ := hrel
          by_cases hn5 : n < 5
          · have hn5I : (n : Int) < 5 := by omega
            have HFU : Hid (∀ K, fullB hl (245 + K) = false) := fun K => by simp [fullB]; omega
            have HHL : Hid (∀ K, (addK hl K).length ≤ n + 1) := fun K => by rw [addK_len]; split <;> omega
            obtain ⟨rb, rv⟩ := HRW.out _ hQ.ws.fr.bel
            clear hhl
            as_aux_lemma =>
              go_wp2_with (first
                | (go_at_call_of 11 (Value.int IntKind.i64 Vz); refine (HR2.out _).mono ?_; rintro e w' ⟨rfl, hw⟩; subst w')
                | (go_at_call 11; refine (HR1.out _ _ (by first | exact wrapIn2 _ | exact wrapIn _ | exact HIB.out)).mono ?_; rintro e w' ⟨K, rfl, hK, hw⟩; subst w'; have hKI : (K : Int) < 80 := (by omega))
                | (go_at_call 14; refine (block_any _ _).mono ?_; rintro e w4 ⟨g, rfl, hg4, hge4, hb4⟩; obtain ⟨b4, s4⟩ := hQ.ws.below hb4)
                | (go_at_call 13; refine (b4.write K hK (HFU.out K) hg4 (bb_len _) (bb_lt _)).mono ?_; rintro e w5 ⟨rfl, b5, s5⟩; obtain ⟨p1, p2, P9⟩ := hQ.step (w4 := w) hK _ rfl b5 (fun x hx => (s5 x hx).trans (s4 x hx))))
              exact ⟨⟨n + 1, _, _, _, by omega, by go_num, HHL.out _, P9⟩, by simp [intOf]; omega⟩
          · obtain rfl : n = 5 := by omega
            go_wp2_with fail
            refine (hQ.ws.commit hm9).mono ?_
            rintro e w5 ⟨cd, rfl, hs5, hq⟩
            rcases hq with ⟨rfl, h5⟩ | ⟨rfl, h5⟩
            · obtain ⟨z1, z2, P9⟩ := hQ.done h5 hs5
              have z3 := hQ.tln
              have z4 := hQ.stl.1
              clear hQ h5 hs5
              as_aux_lemma =>
                go_wp2_with (first
                  | (have _h := z2; refine wpList_load_row rfl 29 _ rfl (w3.heap.size + 1) rfl 29 (av tt) (0, 0) _ z2 Tryd.underlying29 rfl (info29 tt z3) ?_; clear _h z2)
                  | (have _h := z1; refine wpList_store_row rfl 29 _ _ rfl w3.heap.size (av tt) rfl rfl 29 (av ss) z1 (info29 tt z3) (by rw [av_size, av_size, z3, z4]) (av_one tt) ?_; clear _h z1))
                exact ⟨⟨k + 1, by omega, by go_num, .inl ⟨rfl, _, _, _, P9⟩⟩, by simp [intOf]; omega⟩
            · have P9 := hQ.off h5 hs5
              clear hQ h5 hs5
              as_aux_lemma =>
                go_wp2
                exact ⟨⟨k + 1, by omega, by go_num, .inr ⟨rfl, _, _, P9⟩⟩, by simp [intOf]; omega⟩
      · obtain rfl : k = l0.length := by omega
        obtain ⟨z1, z2, hE, hB⟩ := hA.end l2
        have z3 := hA.tln
        have z4 := hA.stl.1
        obtain ⟨V9, HV9⟩ : ∃ V9, Hid (V = V9) := ⟨V, rfl⟩
        rw [HV9.out] at hE hB
        obtain ⟨d9, T9, q1, q2, q3⟩ := hE.dq
        have HEND : Hid _ := whole_end hE.fr hE.ge q1 a2 l2 cap2 q2 q3 (HW2.out.below hE.fr.bel) HM2.out
        have HES : Hid (StB (wr.setRow (w3.heap.size + 1) (av ss)) w3.heap.size ss) := hE.s
        have HET : Hid (StB (wr.setRow (w3.heap.size + 1) (av ss)) (w3.heap.size + 1) ss) := hE.t
        have HSL : Hid (ss.length = 80) := hE.sln
        have HB1 : Hid (isB V9 ss = true) := hB
        clear hA hE hB q1 q2 q3
        as_aux_lemma =>
          go_wp2_with (first
            | (have _h := z1; refine wpList_load_row rfl 29 _ rfl w3.heap.size rfl 29 (av ss) (0, 0) _ z1 Tryd.underlying29 rfl (info29 ss z4) ?_; clear _h z1)
            | (have _h := z2; refine wpList_store_row rfl 29 _ _ rfl (w3.heap.size + 1) (av ss) rfl rfl 29 (av ts) z2 (info29 ss z4) (by rw [av_size, av_size, z3, z4]) (av_one ss) ?_; clear _h z2)
            | (go_at_call 24; refine Calls.mono HEND.out ?_; rintro e w6 ⟨c6, rfl, HX⟩)
            | (go_at_call 23; refine Calls.mono HX.out ?_; rintro e w7 ⟨j7, rfl, HY⟩)
            | (go_at_call 25; refine Calls.mono HY.out ?_; rintro e w8 ⟨x8, c8, rfl, b8, s8⟩; have x1 := HES.out.blk (s8 w3.heap.size (by simp)); have x2 := HET.out.blk (s8 (w3.heap.size + 1) (by simp)); have tk1 : True := trivial)
            | (have _h := x1; refine load_row_g rfl 29 _ rfl (w3.heap.size) rfl 29 (av ss) (0, 0) _ x1 Tryd.underlying29 rfl (info29 ss HSL.out) ?_; clear _h x1)
            | (go_at_call 20; have _h := tk1; refine (is_any b8.cs (V := V9) rfl ss HSL.out).mono ?_; rintro e w9 ⟨rfl, hb9⟩; rw [HB1.out]; obtain ⟨b9, s9⟩ := b8.below hb9; have x3 := x2.blk (s9 (w3.heap.size + 1) (by simp)); clear _h tk1 x2)
            | (go_at_call 9; refine (awake_any b9.fr).mono ?_; rintro e w17 ⟨rfl, hF17⟩))
          go_ret
          exact ⟨rfl, hF17.bel⟩
    · obtain ⟨V9, hE, hor⟩ := hO.end l2
      obtain ⟨d9, T9, q1, q2, q3⟩ := hE.dq
      have HEND : Hid _ := whole_end hE.fr hE.ge q1 a2 l2 cap2 q2 q3 (HW2.out.below hE.fr.bel) HM2.out
      have HES : Hid (StB wr w3.heap.size ss) := hE.s
      have HET : Hid (StB wr (w3.heap.size + 1) ts) := hE.t
      have HSL : Hid (ss.length = 80) := hE.sln
      have HTL : Hid (ts.length = 80) := hE.tln
      clear hO hE q1 q2 q3
      by_cases hlt : k < l0.length
      · have hltI : (k : Int) < (l0.length : Int) := by omega
        rcases hor with hB | ⟨hB, hC⟩
        · have HB1 : Hid (isB V9 ss = true) := hB
          clear hB
          as_aux_lemma =>
            go_wp2_with (first
              | (go_at_call 24; refine Calls.mono HEND.out ?_; rintro e w6 ⟨c6, rfl, HX⟩)
              | (go_at_call 23; refine Calls.mono HX.out ?_; rintro e w7 ⟨j7, rfl, HY⟩)
              | (go_at_call 25; refine Calls.mono HY.out ?_; rintro e w8 ⟨x8, c8, rfl, b8, s8⟩; have x1 := HES.out.blk (s8 w3.heap.size (by simp)); have x2 := HET.out.blk (s8 (w3.heap.size + 1) (by simp)); have tk1 : True := trivial)
              | (have _h := x1; refine load_row_g rfl 29 _ rfl (w3.heap.size) rfl 29 (av ss) (0, 0) _ x1 Tryd.underlying29 rfl (info29 ss HSL.out) ?_; clear _h x1)
              | (go_at_call 20; have _h := tk1; refine (is_any b8.cs (V := V9) rfl ss HSL.out).mono ?_; rintro e w9 ⟨rfl, hb9⟩; rw [HB1.out]; obtain ⟨b9, s9⟩ := b8.below hb9; have x3 := x2.blk (s9 (w3.heap.size + 1) (by simp)); clear _h tk1 x2)
              | (go_at_call 9; refine (awake_any b9.fr).mono ?_; rintro e w17 ⟨rfl, hF17⟩))
            go_ret
            exact ⟨rfl, hF17.bel⟩
        · have HB1 : Hid (isB V9 ss = false) := hB
          have HB2 : Hid (isB V9 ts = true) := hC
          clear hB hC
          as_aux_lemma =>
            go_wp2_with (first
              | (go_at_call 24; refine Calls.mono HEND.out ?_; rintro e w6 ⟨c6, rfl, HX⟩)
              | (go_at_call 23; refine Calls.mono HX.out ?_; rintro e w7 ⟨j7, rfl, HY⟩)
              | (go_at_call 25; refine Calls.mono HY.out ?_; rintro e w8 ⟨x8, c8, rfl, b8, s8⟩; have x1 := HES.out.blk (s8 w3.heap.size (by simp)); have x2 := HET.out.blk (s8 (w3.heap.size + 1) (by simp)); have tk1 : True := trivial)
              | (have _h := x1; refine load_row_g rfl 29 _ rfl (w3.heap.size) rfl 29 (av ss) (0, 0) _ x1 Tryd.underlying29 rfl (info29 ss HSL.out) ?_; clear _h x1)
              | (go_at_call 20; have _h := tk1; refine (is_any b8.cs (V := V9) rfl ss HSL.out).mono ?_; rintro e w9 ⟨rfl, hb9⟩; rw [HB1.out]; obtain ⟨b9, s9⟩ := b8.below hb9; have x3 := x2.blk (s9 (w3.heap.size + 1) (by simp)); clear _h tk1 x2)
              | (have _h := x3; refine load_row_g rfl 29 _ rfl (w3.heap.size + 1) rfl 29 (av ts) (0, 0) _ x3 Tryd.underlying29 rfl (info29 ts HTL.out) ?_; clear _h x3)
              | (go_at_call 20; have _h := HB2; refine (is_any b9.cs (V := V9) rfl ts HTL.out).mono ?_; rintro e w10 ⟨rfl, hb10⟩; rw [HB2.out]; have hF9 := b9.fr.below hb10; clear _h)
              | (go_at_call 9; refine (awake_any hF9).mono ?_; rintro e w17 ⟨rfl, hF17⟩))
            go_ret
            exact ⟨rfl, hF17.bel⟩
      · have hltI : ¬ (k : Int) < (l0.length : Int) := by omega
        rcases hor with hB | ⟨hB, hC⟩
        · have HB1 : Hid (isB V9 ss = true) := hB
          clear hB
          as_aux_lemma =>
            go_wp2_with (first
              | (go_at_call 24; refine Calls.mono HEND.out ?_; rintro e w6 ⟨c6, rfl, HX⟩)
              | (go_at_call 23; refine Calls.mono HX.out ?_; rintro e w7 ⟨j7, rfl, HY⟩)
              | (go_at_call 25; refine Calls.mono HY.out ?_; rintro e w8 ⟨x8, c8, rfl, b8, s8⟩; have x1 := HES.out.blk (s8 w3.heap.size (by simp)); have x2 := HET.out.blk (s8 (w3.heap.size + 1) (by simp)); have tk1 : True := trivial)
              | (have _h := x1; refine load_row_g rfl 29 _ rfl (w3.heap.size) rfl 29 (av ss) (0, 0) _ x1 Tryd.underlying29 rfl (info29 ss HSL.out) ?_; clear _h x1)
              | (go_at_call 20; have _h := tk1; refine (is_any b8.cs (V := V9) rfl ss HSL.out).mono ?_; rintro e w9 ⟨rfl, hb9⟩; rw [HB1.out]; obtain ⟨b9, s9⟩ := b8.below hb9; have x3 := x2.blk (s9 (w3.heap.size + 1) (by simp)); clear _h tk1 x2)
              | (go_at_call 9; refine (awake_any b9.fr).mono ?_; rintro e w17 ⟨rfl, hF17⟩))
            go_ret
            exact ⟨rfl, hF17.bel⟩
        · have HB1 : Hid (isB V9 ss = false) := hB
          have HB2 : Hid (isB V9 ts = true) := hC
          clear hB hC
          as_aux_lemma =>
            go_wp2_with (first
              | (go_at_call 24; refine Calls.mono HEND.out ?_; rintro e w6 ⟨c6, rfl, HX⟩)
              | (go_at_call 23; refine Calls.mono HX.out ?_; rintro e w7 ⟨j7, rfl, HY⟩)
              | (go_at_call 25; refine Calls.mono HY.out ?_; rintro e w8 ⟨x8, c8, rfl, b8, s8⟩; have x1 := HES.out.blk (s8 w3.heap.size (by simp)); have x2 := HET.out.blk (s8 (w3.heap.size + 1) (by simp)); have tk1 : True := trivial)
              | (have _h := x1; refine load_row_g rfl 29 _ rfl (w3.heap.size) rfl 29 (av ss) (0, 0) _ x1 Tryd.underlying29 rfl (info29 ss HSL.out) ?_; clear _h x1)
              | (go_at_call 20; have _h := tk1; refine (is_any b8.cs (V := V9) rfl ss HSL.out).mono ?_; rintro e w9 ⟨rfl, hb9⟩; rw [HB1.out]; obtain ⟨b9, s9⟩ := b8.below hb9; have x3 := x2.blk (s9 (w3.heap.size + 1) (by simp)); clear _h tk1 x2)
              | (have _h := x3; refine load_row_g rfl 29 _ rfl (w3.heap.size + 1) rfl 29 (av ts) (0, 0) _ x3 Tryd.underlying29 rfl (info29 ts HTL.out) ?_; clear _h x3)
              | (go_at_call 20; have _h := HB2; refine (is_any b9.cs (V := V9) rfl ts HTL.out).mono ?_; rintro e w10 ⟨rfl, hb10⟩; rw [HB2.out]; have hF9 := b9.fr.below hb10; clear _h)
              | (go_at_call 9; refine (awake_any hF9).mono ?_; rintro e w17 ⟨rfl, hF17⟩))
            go_ret
            exact ⟨rfl, hF17.bel⟩
end Go.Proofs.YtohncckmennfbaaDoor
