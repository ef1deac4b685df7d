/- CachePlays' walk; printed by wip/tools/mk5p.py. -/
import Derived.Test.YtohncckmennfbaaDoorCq
namespace Go.Proofs.YtohncckmennfbaaDoor
set_option linter.unusedSimpArgs false
set_option linter.unusedVariables false
set_option maxRecDepth 100000
open Go.RowKit Go.MapKept Go.Proofs
open Go.ChangeMaps (setBlock heap_setBlock_same heap_setBlock_other)
set_option maxHeartbeats 4000000 in
theorem cachePlays_walk (a0 : Option Addr) (cap0 : Nat) (l0 : List Stp) (w : World) (ht : Tab w) (w0 : SRow w a0 l0) (m0 : l0.length ≤ 9223372036854775807) :
    Calls Tryd.prog 3 #[.slice a0 l0.length cap0] w fun e w' => e = .returned (.bool true) ∧ Below w.heap.size w w' := by
  have hF := Fr.law ht
  have HF : Hid _ := fresh_any hF
  have m0I : (l0.length : Int) ≤ 9223372036854775807 := by omega
  by_cases hbig : 120 < l0.length
  · have hbI : (120 : Int) < (l0.length : Int) := by omega
    clear HF ht w0
    go_enter Tryd.func3, Tryd.ntmps3
    go_wp2_with (go_at_call 9; refine (awake_any hF).mono ?_; rintro e w4 ⟨rfl, hF4⟩)
    go_ret
    exact ⟨rfl, hF4.bel⟩
  · have hbI : ¬ (120 : Int) < (l0.length : Int) := by omega
    have h100 : (l0.length : Int) ≤ 120 := by omega
    have HW0 : Hid (SRow w a0 l0) := w0
    have hmm := @run_makeMap Tryd.prog
    clear ht hF w0
    go_enter Tryd.func3, Tryd.ntmps3
    go_wp2_with (first
      | (go_at_call 10; refine Calls.mono HF.out ?_; rintro e w2 ⟨dp, c, rfl, hS2⟩))
    obtain ⟨o1, o2, o3, o4, o5⟩ := ovW w2
    have hB4 : BS w.heap.size w [w2.heap.size, w2.heap.size + 1, w2.heap.size + 1 + 1] (((w2.alloc (.cells Tryd.zeroCells29 29)).alloc (.cells Tryd.zeroCells29 29)).alloc (.map #[] 0)) c dp 3 zs0 none := hS2.boxes o1 _ (fun x hx => by rw [o5]; simp only [List.mem_cons, List.not_mem_nil, or_false] at hx; rcases hx with rfl | rfl | rfl <;> exact ⟨by omega, by omega⟩)
    have HA0 : Hid (PlAt w (((w2.alloc (.cells Tryd.zeroCells29 29)).alloc (.cells Tryd.zeroCells29 29)).alloc (.map #[] 0)) c dp (3 + 395 * 0) w2.heap.size (w2.heap.size + 1 + 1) zs0 none z80 z80) := ⟨hB4, tells0, tells0.1, (fun q => by cases q), o2, o3, MetIs.made o4⟩
    clear hB4 o1 o2 o3 o4 o5 hS2 HF
    go_loopw [8, 9, 10] (fun op mt i wr => ∃ k mm V X ss ts, k ≤ l0.length ∧ i = .int .i64 ((k : Nat) : Int) ∧ op = .bool X.isSome ∧ mt = .map (some mm) ∧ PlAt w wr c dp (3 + 395 * k) w2.heap.size mm V X ss ts) (fun _ _ i _ => l0.length - (intOf i).toNat)
    case atStart => exact ⟨0, _, _, none, _, _, by omega, rfl, rfl, rfl, HA0.out⟩
    case round =>
      clear HA0
      obtain ⟨k, mm, V, X, ss, ts, hk, rfl, rfl, rfl, hA⟩ := hrel
      by_cases hlt : k < l0.length
      · have hltI : (k : Int) < (l0.length : Int) := by omega
        have hm9 : 3 + 395 * k ≤ 900000 := by omega
        obtain ⟨lk, off, hla, r0, _, _, iK, iB, iV⟩ := HW0.out k hlt
        have HRW : Hid (∀ w', Below w.heap.size w w' → w'.cell? ⟨lk, off + k * 3, none⟩ = some (.int .i64 (l0.getD k stp0).kind) ∧ w'.cell? ⟨lk, off + k * 3 + 1, none⟩ = some (.int .i64 (l0.getD k stp0).b) ∧ w'.cell? ⟨lk, off + k * 3 + 2, none⟩ = some (.int .i64 (l0.getD k stp0).v)) := fun w' hb => by
          obtain ⟨lk', off', hla', q0, q1, q2, _⟩ := (HW0.out.below hb) k hlt
          rw [hla] at hla'
          injection hla' with q
          injection q with y1 y2
          subst y1; subst y2
          exact ⟨q0, q1, q2⟩
        subst hla
        generalize l0.getD k stp0 = sp at *
        clear r0
        obtain ⟨Kz, Bz, Vz⟩ := sp
        dsimp only at HRW iB iV iK
        have HR1 : Hid (∀ w', Calls Tryd.prog 11 #[.int .i64 Bz, .int .i64 80] w' fun e w'' => e = .returned (.int .i64 ((rd Bz 80 : Nat) : Int)) ∧ w'' = w') := fun w' => round_any Bz 80 w' iB.1 iB.2 (by omega) (by omega)
        have HR2 : Hid (∀ w', Calls Tryd.prog 11 #[.int .i64 Vz, .int .i64 250] w' fun e w'' => e = .returned (.int .i64 ((rd Vz 250 : Nat) : Int)) ∧ w'' = w') := fun w' => round_any Vz 250 w' iV.1 iV.2 (by omega) (by omega)
        have hK := rd_lt Bz 80 (by omega)
        have hV2 := rd_lt Vz 250 (by omega)
        generalize rd Bz 80 = K at *
        generalize rd Vz 250 = Vr at *
        have hKI : (K : Int) < 80 := by omega
        have hVI : (Vr : Int) < 250 := by omega
        obtain ⟨rk, rb, rv⟩ := HRW.out wr hA.bs.fr.bel
        have HMO : Hid (∀ w' mm V X ss ts, PlAt w w' c dp (3 + 395 * k) w2.heap.size mm V X ss ts → PlAt w w' c dp (3 + 395 * (k + 1)) w2.heap.size mm V X ss ts) := fun w' mm V X ss ts h => ⟨⟨h.bs.fr, h.bs.ge, (h.bs.cs.mono (by omega)).cp⟩, h.stl, h.tln, h.ttl, h.s, h.t, h.met⟩
        have HMO2 : Hid (∀ w' mm V X ss ts, PlAt w w' c dp (3 + 395 * k + 395) w2.heap.size mm V X ss ts → PlAt w w' c dp (3 + 395 * (k + 1)) w2.heap.size mm V X ss ts) := fun w' mm V X ss ts h => ⟨⟨h.bs.fr, h.bs.ge, (h.bs.cs.mono (by omega)).cp⟩, h.stl, h.tln, h.ttl, h.s, h.t, h.met⟩
        clear iK iB iV hlt
        rcases X with _ | ⟨hl, f⟩
        · by_cases q1 : Kz = 1
          · subst Kz
            as_aux_lemma =>
              have P0 := hA
              clear hA
              go_wp2_with (first
                | (go_at_call_of 11 (Value.int IntKind.i64 Bz); refine (HR1.out _).mono ?_; rintro e w' ⟨rfl, hw⟩; subst w')
                | (go_at_call_of 11 (Value.int IntKind.i64 Vz); refine (HR2.out _).mono ?_; rintro e w' ⟨rfl, hw⟩; subst w')
                | (go_at_call 12; refine P0.bs.begin.mono ?_; rintro e w5 ⟨rfl, b5, s5⟩; have P9 := P0.begun b5 s5; have y1 : StB w5 w2.heap.size ss := P0.s.blk (s5 _ (by simp)); have y2 : StB w5 (w2.heap.size + 1) ts := P0.t.blk (s5 _ (by simp)); have y3 := P0.tln; have y4 := P0.stl.1; have e9 : w5.heap.size = w5.heap.size := rfl; clear e9)
                | (have _h := y1; refine wpList_load_row rfl 29 _ rfl w2.heap.size rfl 29 (av ss) (0, 0) _ y1 Tryd.underlying29 rfl (info29 ss y4) ?_; clear _h y1)
                | (have _h := y2; refine wpList_store_row rfl 29 _ _ rfl (w2.heap.size + 1) (av ss) rfl rfl 29 (av ts) y2 (info29 ss y4) (by rw [av_size, av_size, y3, y4]) (av_one ss) ?_; clear _h y2)
                | (go_at_call 18; have _h := P9; refine P9.bs.cs.openC.mono ?_; rintro e w' ⟨rfl, hw⟩; subst w'; clear _h)
                | (go_at_call 19; have _h := P9; refine (P9.bs.dirtyO _ rfl).mono ?_; rintro e w' ⟨rfl, hw⟩; subst w'; clear _h)
                | (go_at_call 15; have _h := P9; refine (dirty_any (show MetIs _ _ [] from P9.met)).mono ?_; rintro e w' ⟨rfl, hw⟩; subst w'; clear _h; have hx9 := P9.t)
                | (have _h := hx9; refine load_row_g rfl 29 _ rfl (w2.heap.size + 1) rfl 29 (av ss) (0, 0) _ hx9 Tryd.underlying29 rfl (info29 ss P9.tln) ?_; clear _h hx9)
                | (go_at_call 20; have _h := P9; refine (is_any P9.bs.cs rfl ss P9.tln).mono ?_; rintro e w10 ⟨rfl, hb10⟩; rw [(P9.ttl rfl).is]; have P10 := P9.below hb10; clear _h))
              exact ⟨⟨k + 1, _, _, tx0, _, _, by omega, by go_num, rfl, rfl, HMO.out _ _ _ _ _ _ P10⟩, by simp [intOf]; omega⟩
          by_cases q2 : Kz = 2
          · subst Kz
            as_aux_lemma =>
              have P0 := hA
              clear hA
              go_wp2_with (first
                | (go_at_call_of 11 (Value.int IntKind.i64 Bz); refine (HR1.out _).mono ?_; rintro e w' ⟨rfl, hw⟩; subst w')
                | (go_at_call_of 11 (Value.int IntKind.i64 Vz); refine (HR2.out _).mono ?_; rintro e w' ⟨rfl, hw⟩; subst w')
                | (go_at_call 14; refine (block_any _ _).mono ?_; rintro e w4 ⟨g, rfl, hg4, hge4, hb4⟩; have P9 := P0.below hb4; obtain ⟨zl, hlook⟩ := P9.met.look K; rw [show txK none = [] from rfl, decide_eq_false (List.not_mem_nil)] at hlook)
                | (go_at_call 13; have _h := P9; refine (P9.bs.write_no _ _).mono ?_; rintro e w' ⟨rfl, hw⟩; subst w'; clear _h)
                | (go_at_call 18; have _h := P9; refine P9.bs.cs.openC.mono ?_; rintro e w' ⟨rfl, hw⟩; subst w'; clear _h)
                | (go_at_call 19; have _h := P9; refine P9.bs.dirtyN.mono ?_; rintro e w' ⟨rfl, hw⟩; subst w'; clear _h)
                | (go_at_call 15; have _h := P9; refine (dirty_any P9.met).mono ?_; rintro e w' ⟨rfl, hw⟩; subst w'; clear _h; have hx9 := P9.s)
                | (have _h := hx9; refine load_row_g rfl 29 _ rfl (w2.heap.size) rfl 29 (av ss) (0, 0) _ hx9 Tryd.underlying29 rfl (info29 ss P9.stl.1) ?_; clear _h hx9)
                | (go_at_call 20; have _h := P9; refine (is_any P9.bs.cs (V := V) rfl ss P9.stl.1).mono ?_; rintro e w10 ⟨rfl, hb10⟩; rw [P9.stl.is]; have P10 := P9.below hb10; clear _h))
              exact ⟨⟨k + 1, _, _, none, _, _, by omega, by go_num, rfl, rfl, HMO.out _ _ _ _ _ _ P10⟩, by simp [intOf]; omega⟩
          by_cases q3 : Kz = 3
          · subst Kz
            as_aux_lemma =>
              have P0 := hA
              clear hA
              go_wp2_with (first
                | (go_at_call_of 11 (Value.int IntKind.i64 Bz); refine (HR1.out _).mono ?_; rintro e w' ⟨rfl, hw⟩; subst w')
                | (go_at_call_of 11 (Value.int IntKind.i64 Vz); refine (HR2.out _).mono ?_; rintro e w' ⟨rfl, hw⟩; subst w')
                | (go_at_call 16; refine P0.bs.cs.commit_no.mono ?_; rintro e w' ⟨rfl, hw⟩; subst w'; have P9 := P0.ended (m' := 0) P0.bs (fun _ _ => rfl))
                | (go_at_call 18; have _h := P9; refine P9.bs.cs.openC.mono ?_; rintro e w' ⟨rfl, hw⟩; subst w'; clear _h)
                | (go_at_call 19; have _h := P9; refine P9.bs.dirtyN.mono ?_; rintro e w' ⟨rfl, hw⟩; subst w'; clear _h)
                | (go_at_call 15; have _h := P9; refine (dirty_any P9.met).mono ?_; rintro e w' ⟨rfl, hw⟩; subst w'; clear _h; have hx9 := P9.s)
                | (have _h := hx9; refine load_row_g rfl 29 _ rfl (w2.heap.size) rfl 29 (av ss) (0, 0) _ hx9 Tryd.underlying29 rfl (info29 ss P9.stl.1) ?_; clear _h hx9)
                | (go_at_call 20; have _h := P9; refine (is_any P9.bs.cs (V := V) rfl ss P9.stl.1).mono ?_; rintro e w10 ⟨rfl, hb10⟩; rw [P9.stl.is]; have P10 := P9.below hb10; clear _h))
              exact ⟨⟨k + 1, _, _, none, _, _, by omega, by go_num, rfl, rfl, HMO.out _ _ _ _ _ _ P10⟩, by simp [intOf]; omega⟩
          by_cases q4 : Kz = 4
          · subst Kz
            as_aux_lemma =>
              have P0 := hA
              clear hA
              go_wp2_with (first
                | (go_at_call_of 11 (Value.int IntKind.i64 Bz); refine (HR1.out _).mono ?_; rintro e w' ⟨rfl, hw⟩; subst w')
                | (go_at_call_of 11 (Value.int IntKind.i64 Vz); refine (HR2.out _).mono ?_; rintro e w' ⟨rfl, hw⟩; subst w')
                | (go_at_call 17; refine P0.bs.cs.abort_no.mono ?_; rintro e w' ⟨rfl, hw⟩; subst w'; have P9 := P0.ended (m' := 0) P0.bs (fun _ _ => rfl))
                | (go_at_call 18; have _h := P9; refine P9.bs.cs.openC.mono ?_; rintro e w' ⟨rfl, hw⟩; subst w'; clear _h)
                | (go_at_call 19; have _h := P9; refine P9.bs.dirtyN.mono ?_; rintro e w' ⟨rfl, hw⟩; subst w'; clear _h)
                | (go_at_call 15; have _h := P9; refine (dirty_any P9.met).mono ?_; rintro e w' ⟨rfl, hw⟩; subst w'; clear _h; have hx9 := P9.s)
                | (have _h := hx9; refine load_row_g rfl 29 _ rfl (w2.heap.size) rfl 29 (av ss) (0, 0) _ hx9 Tryd.underlying29 rfl (info29 ss P9.stl.1) ?_; clear _h hx9)
                | (go_at_call 20; have _h := P9; refine (is_any P9.bs.cs (V := V) rfl ss P9.stl.1).mono ?_; rintro e w10 ⟨rfl, hb10⟩; rw [P9.stl.is]; have P10 := P9.below hb10; clear _h))
              exact ⟨⟨k + 1, _, _, none, _, _, by omega, by go_num, rfl, rfl, HMO.out _ _ _ _ _ _ P10⟩, by simp [intOf]; omega⟩
          by_cases q5 : Kz = 5
          · subst Kz
            as_aux_lemma =>
              have P0 := hA
              clear hA
              obtain ⟨i0, hi, hz0, hz1, hz2⟩ := info_parts Tryd.info5
              have xb : i0.bytes * 511 ≤ 281474976710656 := by rw [hz2]; omega
              have z5 : True := trivial
              go_wp2_with (first
                | (go_at_call_of 11 (Value.int IntKind.i64 Bz); refine (HR1.out _).mono ?_; rintro e w' ⟨rfl, hw⟩; subst w')
                | (go_at_call_of 11 (Value.int IntKind.i64 Vz); refine (HR2.out _).mono ?_; rintro e w' ⟨rfl, hw⟩; subst w')
                | (at_make; have _h := z5; refine wpList_make_full _ rfl _ _ 37 rfl wr.heap.size 5 i0 (.int .u8 0) 1 Tryd.underlying37 hi hz0 hz1 .i64 .i64 _ _ 511 rfl rfl rfl rfl xb (by decide) (Nat.le_refl _) ?_; intro u1 hown0 hg; have hb1 := below_made hg; have PX := P0.below hb1; clear _h z5 hown0 hg)
                | (go_at_call 13; refine (PX.bs.write_no _ _).mono ?_; rintro e w' ⟨rfl, hw⟩; subst w'; have P9 := PX)
                | (go_at_call 18; have _h := P9; refine P9.bs.cs.openC.mono ?_; rintro e w' ⟨rfl, hw⟩; subst w'; clear _h)
                | (go_at_call 19; have _h := P9; refine P9.bs.dirtyN.mono ?_; rintro e w' ⟨rfl, hw⟩; subst w'; clear _h)
                | (go_at_call 15; have _h := P9; refine (dirty_any P9.met).mono ?_; rintro e w' ⟨rfl, hw⟩; subst w'; clear _h; have hx9 := P9.s)
                | (have _h := hx9; refine load_row_g rfl 29 _ rfl (w2.heap.size) rfl 29 (av ss) (0, 0) _ hx9 Tryd.underlying29 rfl (info29 ss P9.stl.1) ?_; clear _h hx9)
                | (go_at_call 20; have _h := P9; refine (is_any P9.bs.cs (V := V) rfl ss P9.stl.1).mono ?_; rintro e w10 ⟨rfl, hb10⟩; rw [P9.stl.is]; have P10 := P9.below hb10; clear _h))
              exact ⟨⟨k + 1, _, _, none, _, _, by omega, by go_num, rfl, rfl, HMO.out _ _ _ _ _ _ P10⟩, by simp [intOf]; omega⟩
          by_cases q6 : Kz = 6
          · subst Kz
            as_aux_lemma =>
              have P0 := hA
              clear hA
              go_wp2_with (first
                | (go_at_call_of 11 (Value.int IntKind.i64 Bz); refine (HR1.out _).mono ?_; rintro e w' ⟨rfl, hw⟩; subst w')
                | (go_at_call_of 11 (Value.int IntKind.i64 Vz); refine (HR2.out _).mono ?_; rintro e w' ⟨rfl, hw⟩; subst w')
                | (go_at_call 14; refine (block_any _ _).mono ?_; rintro e w4 ⟨g, rfl, hg4, hge4, hb4⟩; have P9 := P0.below hb4)
                | (go_at_call 13; have _h := P9; refine (P9.bs.write_no _ _).mono ?_; rintro e w' ⟨rfl, hw⟩; subst w'; clear _h)
                | (go_at_call 18; have _h := P9; refine P9.bs.cs.openC.mono ?_; rintro e w' ⟨rfl, hw⟩; subst w'; clear _h)
                | (go_at_call 19; have _h := P9; refine P9.bs.dirtyN.mono ?_; rintro e w' ⟨rfl, hw⟩; subst w'; clear _h)
                | (go_at_call 15; have _h := P9; refine (dirty_any P9.met).mono ?_; rintro e w' ⟨rfl, hw⟩; subst w'; clear _h; have hx9 := P9.s)
                | (have _h := hx9; refine load_row_g rfl 29 _ rfl (w2.heap.size) rfl 29 (av ss) (0, 0) _ hx9 Tryd.underlying29 rfl (info29 ss P9.stl.1) ?_; clear _h hx9)
                | (go_at_call 20; have _h := P9; refine (is_any P9.bs.cs (V := V) rfl ss P9.stl.1).mono ?_; rintro e w10 ⟨rfl, hb10⟩; rw [P9.stl.is]; have P10 := P9.below hb10; clear _h))
              exact ⟨⟨k + 1, _, _, none, _, _, by omega, by go_num, rfl, rfl, HMO.out _ _ _ _ _ _ P10⟩, by simp [intOf]; omega⟩
          have q1B : (Kz == 1) = false := beq_false_of_ne q1
          have q2B : (Kz == 2) = false := beq_false_of_ne q2
          have q3B : (Kz == 3) = false := beq_false_of_ne q3
          have q4B : (Kz == 4) = false := beq_false_of_ne q4
          have q5B : (Kz == 5) = false := beq_false_of_ne q5
          have q6B : (Kz == 6) = false := beq_false_of_ne q6
          clear q1 q2 q3 q4 q5 q6
          as_aux_lemma =>
            have P9 := hA
            clear hA
            go_wp2_with (first
              | (go_at_call_of 11 (Value.int IntKind.i64 Bz); refine (HR1.out _).mono ?_; rintro e w' ⟨rfl, hw⟩; subst w')
              | (go_at_call_of 11 (Value.int IntKind.i64 Vz); refine (HR2.out _).mono ?_; rintro e w' ⟨rfl, hw⟩; subst w')
              | (go_at_call 18; have _h := P9; refine P9.bs.cs.openC.mono ?_; rintro e w' ⟨rfl, hw⟩; subst w'; clear _h)
              | (go_at_call 19; have _h := P9; refine P9.bs.dirtyN.mono ?_; rintro e w' ⟨rfl, hw⟩; subst w'; clear _h)
              | (go_at_call 15; have _h := P9; refine (dirty_any P9.met).mono ?_; rintro e w' ⟨rfl, hw⟩; subst w'; clear _h; have hx9 := P9.s)
              | (have _h := hx9; refine load_row_g rfl 29 _ rfl (w2.heap.size) rfl 29 (av ss) (0, 0) _ hx9 Tryd.underlying29 rfl (info29 ss P9.stl.1) ?_; clear _h hx9)
              | (go_at_call 20; have _h := P9; refine (is_any P9.bs.cs (V := V) rfl ss P9.stl.1).mono ?_; rintro e w10 ⟨rfl, hb10⟩; rw [P9.stl.is]; have P10 := P9.below hb10; clear _h))
            exact ⟨⟨k + 1, _, _, none, _, _, by omega, by go_num, rfl, rfl, HMO.out _ _ _ _ _ _ P10⟩, by simp [intOf]; omega⟩
        · by_cases q1 : Kz = 1
          · subst Kz
            as_aux_lemma =>
              have P9 := hA
              clear hA
              go_wp2_with (first
                | (go_at_call_of 11 (Value.int IntKind.i64 Bz); refine (HR1.out _).mono ?_; rintro e w' ⟨rfl, hw⟩; subst w')
                | (go_at_call_of 11 (Value.int IntKind.i64 Vz); refine (HR2.out _).mono ?_; rintro e w' ⟨rfl, hw⟩; subst w')
                | (go_at_call 12; have _h := P9; refine P9.bs.cs.begin_no.mono ?_; rintro e w' ⟨rfl, hw⟩; subst w'; clear _h)
                | (go_at_call 18; have _h := P9; refine P9.bs.cs.openC.mono ?_; rintro e w' ⟨rfl, hw⟩; subst w'; clear _h)
                | (go_at_call 19; have _h := P9; refine (P9.bs.dirtyO _ rfl).mono ?_; rintro e w' ⟨rfl, hw⟩; subst w'; clear _h)
                | (go_at_call 15; have _h := P9; refine (dirty_any (show MetIs _ _ hl from P9.met)).mono ?_; rintro e w' ⟨rfl, hw⟩; subst w'; clear _h; have hx9 := P9.t)
                | (have _h := hx9; refine load_row_g rfl 29 _ rfl (w2.heap.size + 1) rfl 29 (av ts) (0, 0) _ hx9 Tryd.underlying29 rfl (info29 ts P9.tln) ?_; clear _h hx9)
                | (go_at_call 20; have _h := P9; refine (is_any P9.bs.cs rfl ts P9.tln).mono ?_; rintro e w10 ⟨rfl, hb10⟩; rw [(P9.ttl rfl).is]; have P10 := P9.below hb10; clear _h))
              exact ⟨⟨k + 1, _, _, (some (hl, f)), _, _, by omega, by go_num, rfl, rfl, HMO.out _ _ _ _ _ _ P10⟩, by simp [intOf]; omega⟩
          by_cases q2 : Kz = 2
          · subst Kz
            as_aux_lemma =>
              have P0 := hA
              clear hA
              have h60 := P0.bs.few
              have h60I : (hl.length : Int) ≤ 60 := by omega
              by_cases hin : 245 + K ∈ hl
              · have HFU : Hid (fullB hl (245 + K) = false) := by show _ = _; simp [fullB, hin]
                have HD : Hid (decide (245 + K ∈ hl) = true) := decide_eq_true hin
                clear hin
                go_wp2_with (first
                  | (go_at_call_of 11 (Value.int IntKind.i64 Bz); refine (HR1.out _).mono ?_; rintro e w' ⟨rfl, hw⟩; subst w')
                  | (go_at_call_of 11 (Value.int IntKind.i64 Vz); refine (HR2.out _).mono ?_; rintro e w' ⟨rfl, hw⟩; subst w')
                  | (go_at_call 14; refine (block_any _ _).mono ?_; rintro e w4 ⟨g, rfl, hg4, hge4, hb4⟩; obtain ⟨b4, s4⟩ := P0.bs.below hb4; have tw : True := trivial)
                  | (go_at_call 13; have _h := tw; refine (b4.write K hK HFU.out hg4 (bb_len _) (bb_lt _)).mono ?_; rintro e w5 ⟨rfl, b5, s5⟩; obtain ⟨m5, es, cl, p1, p3, p4, P9⟩ := P0.step hK _ rfl b5 (fun x hx => (s5 x hx).trans (s4 x hx)); obtain ⟨zl, hlook⟩ := m5.look K; rw [HD.out] at hlook; clear _h tw)
                  | (go_at_call 18; have _h := P9; refine P9.bs.cs.openC.mono ?_; rintro e w' ⟨rfl, hw⟩; subst w'; clear _h)
                  | (go_at_call 19; have _h := P9; refine (P9.bs.dirtyO _ rfl).mono ?_; rintro e w' ⟨rfl, hw⟩; subst w'; clear _h)
                  | (go_at_call 15; have _h := P9; refine (dirty_any (show MetIs _ _ (addK hl (245 + K)) from P9.met)).mono ?_; rintro e w' ⟨rfl, hw⟩; subst w'; clear _h; have hx9 := P9.t)
                  | (have _h := hx9; refine load_row_g rfl 29 _ rfl (w2.heap.size + 1) rfl 29 (av (ts.set K ((Vr : Nat) : Int))) (0, 0) _ hx9 Tryd.underlying29 rfl (info29 (ts.set K ((Vr : Nat) : Int)) P9.tln) ?_; clear _h hx9)
                  | (go_at_call 20; have _h := P9; refine (is_any P9.bs.cs rfl (ts.set K ((Vr : Nat) : Int)) P9.tln).mono ?_; rintro e w10 ⟨rfl, hb10⟩; rw [(P9.ttl rfl).is]; have P10 := P9.below hb10; clear _h))
                exact ⟨⟨k + 1, _, _, (some (addK hl (245 + K), updK f (245 + K) (bb ((Vr : Nat) : Int)))), _, _, by omega, by go_num, rfl, rfl, HMO.out _ _ _ _ _ _ P10⟩, by simp [intOf]; omega⟩
              · by_cases h6 : hl.length = 60
                · have HFU : Hid (fullB hl (245 + K) = true) := by show _ = _; simp [fullB, hin, h6]
                  have HD : Hid (decide (245 + K ∈ hl) = false) := decide_eq_false hin
                  have h6I : (60 : Int) ≤ (hl.length : Int) := by omega
                  clear hin h6
                  go_wp2_with (first
                    | (go_at_call_of 11 (Value.int IntKind.i64 Bz); refine (HR1.out _).mono ?_; rintro e w' ⟨rfl, hw⟩; subst w')
                    | (go_at_call_of 11 (Value.int IntKind.i64 Vz); refine (HR2.out _).mono ?_; rintro e w' ⟨rfl, hw⟩; subst w')
                    | (go_at_call 14; refine (block_any _ _).mono ?_; rintro e w4 ⟨g, rfl, hg4, hge4, hb4⟩; obtain ⟨b4, s4⟩ := P0.bs.below hb4; have tw : True := trivial)
                    | (go_at_call 13; have _h := tw; refine (b4.write_big K hK HFU.out _ _).mono ?_; rintro e w5 ⟨rfl, b5, s5⟩; have P9 := P0.go (m' := 0) (V' := V) b5 (fun x hx => (s5 x hx).trans (s4 x hx)); obtain ⟨zl, hlook⟩ := P9.met.look K; rw [show txK (some (hl, f)) = hl from rfl, HD.out] at hlook; clear _h tw; have td : True := trivial)
                    | (go_at_call 15; have _h := td; refine (dirty_any (show MetIs _ _ hl from P9.met)).mono ?_; rintro e w' ⟨rfl, hw⟩; subst w'; clear _h td)
                    | (go_at_call 18; have _h := P9; refine P9.bs.cs.openC.mono ?_; rintro e w' ⟨rfl, hw⟩; subst w'; clear _h)
                    | (go_at_call 19; have _h := P9; refine (P9.bs.dirtyO _ rfl).mono ?_; rintro e w' ⟨rfl, hw⟩; subst w'; clear _h)
                    | (go_at_call 15; have _h := P9; refine (dirty_any (show MetIs _ _ hl from P9.met)).mono ?_; rintro e w' ⟨rfl, hw⟩; subst w'; clear _h; have hx9 := P9.t)
                    | (have _h := hx9; refine load_row_g rfl 29 _ rfl (w2.heap.size + 1) rfl 29 (av ts) (0, 0) _ hx9 Tryd.underlying29 rfl (info29 ts P9.tln) ?_; clear _h hx9)
                    | (go_at_call 20; have _h := P9; refine (is_any P9.bs.cs rfl ts P9.tln).mono ?_; rintro e w10 ⟨rfl, hb10⟩; rw [(P9.ttl rfl).is]; have P10 := P9.below hb10; clear _h))
                  exact ⟨⟨k + 1, _, _, (some (hl, f)), _, _, by omega, by go_num, rfl, rfl, HMO.out _ _ _ _ _ _ P10⟩, by simp [intOf]; omega⟩
                · have HFU : Hid (fullB hl (245 + K) = false) := by show _ = _; simp [fullB, hin, h6]
                  have HD : Hid (decide (245 + K ∈ hl) = false) := decide_eq_false hin
                  have h6I : ¬ (60 : Int) ≤ (hl.length : Int) := by omega
                  clear hin h6
                  go_wp2_with (first
                    | (go_at_call_of 11 (Value.int IntKind.i64 Bz); refine (HR1.out _).mono ?_; rintro e w' ⟨rfl, hw⟩; subst w')
                    | (go_at_call_of 11 (Value.int IntKind.i64 Vz); refine (HR2.out _).mono ?_; rintro e w' ⟨rfl, hw⟩; subst w')
                    | (go_at_call 14; refine (block_any _ _).mono ?_; rintro e w4 ⟨g, rfl, hg4, hge4, hb4⟩; obtain ⟨b4, s4⟩ := P0.bs.below hb4; have tw : True := trivial)
                    | (go_at_call 13; have _h := tw; refine (b4.write K hK HFU.out hg4 (bb_len _) (bb_lt _)).mono ?_; rintro e w5 ⟨rfl, b5, s5⟩; obtain ⟨m5, es, cl, p1, p3, p4, P9⟩ := P0.step hK _ rfl b5 (fun x hx => (s5 x hx).trans (s4 x hx)); obtain ⟨zl, hlook⟩ := m5.look K; rw [HD.out] at hlook; clear _h tw; have td : True := trivial)
                    | (go_at_call 15; have _h := td; refine (dirty_any m5).mono ?_; rintro e w' ⟨rfl, hw⟩; subst w'; clear _h td)
                    | (go_at_call 18; have _h := P9; refine P9.bs.cs.openC.mono ?_; rintro e w' ⟨rfl, hw⟩; subst w'; clear _h)
                    | (go_at_call 19; have _h := P9; refine (P9.bs.dirtyO _ rfl).mono ?_; rintro e w' ⟨rfl, hw⟩; subst w'; clear _h)
                    | (go_at_call 15; have _h := P9; refine (dirty_any (show MetIs _ _ (addK hl (245 + K)) from P9.met)).mono ?_; rintro e w' ⟨rfl, hw⟩; subst w'; clear _h; have hx9 := P9.t)
                    | (have _h := hx9; refine load_row_g rfl 29 _ rfl (w2.heap.size + 1) rfl 29 (av (ts.set K ((Vr : Nat) : Int))) (0, 0) _ hx9 Tryd.underlying29 rfl (info29 (ts.set K ((Vr : Nat) : Int)) P9.tln) ?_; clear _h hx9)
                    | (go_at_call 20; have _h := P9; refine (is_any P9.bs.cs rfl (ts.set K ((Vr : Nat) : Int)) P9.tln).mono ?_; rintro e w10 ⟨rfl, hb10⟩; rw [(P9.ttl rfl).is]; have P10 := P9.below hb10; clear _h))
                  exact ⟨⟨k + 1, _, _, (some (addK hl (245 + K), updK f (245 + K) (bb ((Vr : Nat) : Int)))), _, _, by omega, by go_num, rfl, rfl, HMO.out _ _ _ _ _ _ P10⟩, by simp [intOf]; omega⟩
          by_cases q3 : Kz = 3
          · subst Kz
            as_aux_lemma =>
              have P0 := hA
              clear hA
              go_wp2_with (first
                | (go_at_call_of 11 (Value.int IntKind.i64 Bz); refine (HR1.out _).mono ?_; rintro e w' ⟨rfl, hw⟩; subst w')
                | (go_at_call_of 11 (Value.int IntKind.i64 Vz); refine (HR2.out _).mono ?_; rintro e w' ⟨rfl, hw⟩; subst w')
                | (go_at_call 16; refine (P0.bs.commit hm9).mono ?_; rintro e w5 ⟨rfl, b5, s5⟩; have P9 := P0.committed b5 s5; have y1 : StB w5 w2.heap.size ss := P0.s.blk (s5 _ (by simp)); have y2 : StB w5 (w2.heap.size + 1) ts := P0.t.blk (s5 _ (by simp)); have y3 := P0.tln; have y4 := P0.stl.1; obtain ⟨rk5, _, _⟩ := HRW.out w5 b5.fr.bel)
                | (have _h := y2; refine wpList_load_row rfl 29 _ rfl (w2.heap.size + 1) rfl 29 (av ts) (0, 0) _ y2 Tryd.underlying29 rfl (info29 ts y3) ?_; clear _h y2)
                | (have _h := y1; refine wpList_store_row rfl 29 _ _ rfl w2.heap.size (av ts) rfl rfl 29 (av ss) y1 (info29 ts y3) (by rw [av_size, av_size, y3, y4]) (av_one ts) ?_; clear _h y1)
                | (go_at_call 18; have _h := P9; refine P9.bs.cs.openC.mono ?_; rintro e w' ⟨rfl, hw⟩; subst w'; clear _h)
                | (go_at_call 19; have _h := P9; refine P9.bs.dirtyN.mono ?_; rintro e w' ⟨rfl, hw⟩; subst w'; clear _h)
                | (go_at_call 15; have _h := P9; refine (dirty_any P9.met).mono ?_; rintro e w' ⟨rfl, hw⟩; subst w'; clear _h; have hx9 := P9.s)
                | (have _h := hx9; refine load_row_g rfl 29 _ rfl (w2.heap.size) rfl 29 (av ts) (0, 0) _ hx9 Tryd.underlying29 rfl (info29 ts P9.stl.1) ?_; clear _h hx9)
                | (go_at_call 20; have _h := P9; refine (is_any P9.bs.cs (V := (txV V (some (hl, f)))) rfl ts P9.stl.1).mono ?_; rintro e w10 ⟨rfl, hb10⟩; rw [P9.stl.is]; have P10 := P9.below hb10; clear _h))
              exact ⟨⟨k + 1, _, _, none, _, _, by omega, by go_num, rfl, rfl, HMO2.out _ _ _ _ _ _ P10⟩, by simp [intOf]; omega⟩
          by_cases q4 : Kz = 4
          · subst Kz
            as_aux_lemma =>
              have P0 := hA
              clear hA
              go_wp2_with (first
                | (go_at_call_of 11 (Value.int IntKind.i64 Bz); refine (HR1.out _).mono ?_; rintro e w' ⟨rfl, hw⟩; subst w')
                | (go_at_call_of 11 (Value.int IntKind.i64 Vz); refine (HR2.out _).mono ?_; rintro e w' ⟨rfl, hw⟩; subst w')
                | (go_at_call 17; refine P0.bs.abort.mono ?_; rintro e w5 ⟨rfl, b5, s5⟩; have P9 := P0.ended (m' := 0) b5 s5; obtain ⟨rk5, _, _⟩ := HRW.out w5 b5.fr.bel)
                | (go_at_call 18; have _h := P9; refine P9.bs.cs.openC.mono ?_; rintro e w' ⟨rfl, hw⟩; subst w'; clear _h)
                | (go_at_call 19; have _h := P9; refine P9.bs.dirtyN.mono ?_; rintro e w' ⟨rfl, hw⟩; subst w'; clear _h)
                | (go_at_call 15; have _h := P9; refine (dirty_any P9.met).mono ?_; rintro e w' ⟨rfl, hw⟩; subst w'; clear _h; have hx9 := P9.s)
                | (have _h := hx9; refine load_row_g rfl 29 _ rfl (w2.heap.size) rfl 29 (av ss) (0, 0) _ hx9 Tryd.underlying29 rfl (info29 ss P9.stl.1) ?_; clear _h hx9)
                | (go_at_call 20; have _h := P9; refine (is_any P9.bs.cs (V := V) rfl ss P9.stl.1).mono ?_; rintro e w10 ⟨rfl, hb10⟩; rw [P9.stl.is]; have P10 := P9.below hb10; clear _h))
              exact ⟨⟨k + 1, _, _, none, _, _, by omega, by go_num, rfl, rfl, HMO.out _ _ _ _ _ _ P10⟩, by simp [intOf]; omega⟩
          by_cases q5 : Kz = 5
          · subst Kz
            as_aux_lemma =>
              have P0 := hA
              clear hA
              obtain ⟨i0, hi, hz0, hz1, hz2⟩ := info_parts Tryd.info5
              have xb : i0.bytes * 511 ≤ 281474976710656 := by rw [hz2]; omega
              have z5 : True := trivial
              go_wp2_with (first
                | (go_at_call_of 11 (Value.int IntKind.i64 Bz); refine (HR1.out _).mono ?_; rintro e w' ⟨rfl, hw⟩; subst w')
                | (go_at_call_of 11 (Value.int IntKind.i64 Vz); refine (HR2.out _).mono ?_; rintro e w' ⟨rfl, hw⟩; subst w')
                | (at_make; have _h := z5; refine wpList_make_full _ rfl _ _ 37 rfl wr.heap.size 5 i0 (.int .u8 0) 1 Tryd.underlying37 hi hz0 hz1 .i64 .i64 _ _ 511 rfl rfl rfl rfl xb (by decide) (Nat.le_refl _) ?_; intro u1 hown0 hg; have hb1 := below_made hg; have PX := P0.below hb1; clear _h z5 hown0 hg)
                | (go_at_call 13; refine (PX.bs.write_len K hK _ 511 _ rfl).mono ?_; rintro e w5 ⟨rfl, b5, s5⟩; have P9 := PX.go (m' := 0) (V' := V) b5 s5)
                | (go_at_call 18; have _h := P9; refine P9.bs.cs.openC.mono ?_; rintro e w' ⟨rfl, hw⟩; subst w'; clear _h)
                | (go_at_call 19; have _h := P9; refine (P9.bs.dirtyO _ rfl).mono ?_; rintro e w' ⟨rfl, hw⟩; subst w'; clear _h)
                | (go_at_call 15; have _h := P9; refine (dirty_any (show MetIs _ _ hl from P9.met)).mono ?_; rintro e w' ⟨rfl, hw⟩; subst w'; clear _h; have hx9 := P9.t)
                | (have _h := hx9; refine load_row_g rfl 29 _ rfl (w2.heap.size + 1) rfl 29 (av ts) (0, 0) _ hx9 Tryd.underlying29 rfl (info29 ts P9.tln) ?_; clear _h hx9)
                | (go_at_call 20; have _h := P9; refine (is_any P9.bs.cs rfl ts P9.tln).mono ?_; rintro e w10 ⟨rfl, hb10⟩; rw [(P9.ttl rfl).is]; have P10 := P9.below hb10; clear _h))
              exact ⟨⟨k + 1, _, _, (some (hl, f)), _, _, by omega, by go_num, rfl, rfl, HMO.out _ _ _ _ _ _ P10⟩, by simp [intOf]; omega⟩
          by_cases q6 : Kz = 6
          · subst Kz
            as_aux_lemma =>
              have P0 := hA
              clear hA
              go_wp2_with (first
                | (go_at_call_of 11 (Value.int IntKind.i64 Bz); refine (HR1.out _).mono ?_; rintro e w' ⟨rfl, hw⟩; subst w')
                | (go_at_call_of 11 (Value.int IntKind.i64 Vz); refine (HR2.out _).mono ?_; rintro e w' ⟨rfl, hw⟩; subst w')
                | (go_at_call 14; refine (block_any _ _).mono ?_; rintro e w4 ⟨g, rfl, hg4, hge4, hb4⟩; have P4 := P0.below hb4)
                | (go_at_call 13; refine (P4.bs.write_far _ (by omega) _).mono ?_; rintro e w5 ⟨rfl, b5, s5⟩; have P9 := P4.go (m' := 0) (V' := V) b5 s5)
                | (go_at_call 18; have _h := P9; refine P9.bs.cs.openC.mono ?_; rintro e w' ⟨rfl, hw⟩; subst w'; clear _h)
                | (go_at_call 19; have _h := P9; refine (P9.bs.dirtyO _ rfl).mono ?_; rintro e w' ⟨rfl, hw⟩; subst w'; clear _h)
                | (go_at_call 15; have _h := P9; refine (dirty_any (show MetIs _ _ hl from P9.met)).mono ?_; rintro e w' ⟨rfl, hw⟩; subst w'; clear _h; have hx9 := P9.t)
                | (have _h := hx9; refine load_row_g rfl 29 _ rfl (w2.heap.size + 1) rfl 29 (av ts) (0, 0) _ hx9 Tryd.underlying29 rfl (info29 ts P9.tln) ?_; clear _h hx9)
                | (go_at_call 20; have _h := P9; refine (is_any P9.bs.cs rfl ts P9.tln).mono ?_; rintro e w10 ⟨rfl, hb10⟩; rw [(P9.ttl rfl).is]; have P10 := P9.below hb10; clear _h))
              exact ⟨⟨k + 1, _, _, (some (hl, f)), _, _, by omega, by go_num, rfl, rfl, HMO.out _ _ _ _ _ _ P10⟩, by simp [intOf]; omega⟩
          have q1B : (Kz == 1) = false := beq_false_of_ne q1
          have q2B : (Kz == 2) = false := beq_false_of_ne q2
          have q3B : (Kz == 3) = false := beq_false_of_ne q3
          have q4B : (Kz == 4) = false := beq_false_of_ne q4
          have q5B : (Kz == 5) = false := beq_false_of_ne q5
          have q6B : (Kz == 6) = false := beq_false_of_ne q6
          clear q1 q2 q3 q4 q5 q6
          as_aux_lemma =>
            have P9 := hA
            clear hA
            go_wp2_with (first
              | (go_at_call_of 11 (Value.int IntKind.i64 Bz); refine (HR1.out _).mono ?_; rintro e w' ⟨rfl, hw⟩; subst w')
              | (go_at_call_of 11 (Value.int IntKind.i64 Vz); refine (HR2.out _).mono ?_; rintro e w' ⟨rfl, hw⟩; subst w')
              | (go_at_call 18; have _h := P9; refine P9.bs.cs.openC.mono ?_; rintro e w' ⟨rfl, hw⟩; subst w'; clear _h)
              | (go_at_call 19; have _h := P9; refine (P9.bs.dirtyO _ rfl).mono ?_; rintro e w' ⟨rfl, hw⟩; subst w'; clear _h)
              | (go_at_call 15; have _h := P9; refine (dirty_any (show MetIs _ _ hl from P9.met)).mono ?_; rintro e w' ⟨rfl, hw⟩; subst w'; clear _h; have hx9 := P9.t)
              | (have _h := hx9; refine load_row_g rfl 29 _ rfl (w2.heap.size + 1) rfl 29 (av ts) (0, 0) _ hx9 Tryd.underlying29 rfl (info29 ts P9.tln) ?_; clear _h hx9)
              | (go_at_call 20; have _h := P9; refine (is_any P9.bs.cs rfl ts P9.tln).mono ?_; rintro e w10 ⟨rfl, hb10⟩; rw [(P9.ttl rfl).is]; have P10 := P9.below hb10; clear _h))
            exact ⟨⟨k + 1, _, _, (some (hl, f)), _, _, by omega, by go_num, rfl, rfl, HMO.out _ _ _ _ _ _ P10⟩, by simp [intOf]; omega⟩
      · obtain rfl : k = l0.length := by omega
        go_wp2_with (first
          | (go_at_call 9; refine (awake_any hA.bs.fr).mono ?_; rintro e w17 ⟨rfl, hF17⟩))
        go_ret
        exact ⟨rfl, hF17.bel⟩
end Go.Proofs.YtohncckmennfbaaDoor
