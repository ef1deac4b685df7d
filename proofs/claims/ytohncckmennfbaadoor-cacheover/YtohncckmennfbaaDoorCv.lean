/- CacheOver's walk. -/
import Derived.Test.YtohncckmennfbaaDoorCl
namespace Go.Proofs.YtohncckmennfbaaDoor
set_option linter.unusedSimpArgs false
set_option linter.unusedVariables false
set_option maxRecDepth 100000
open Go.RowKit Go.MapKept Go.Proofs
open Go.ChangeMaps (setBlock heap_setBlock_same heap_setBlock_other)
/-- CacheOver between two writes: sb, tb the states' boxes, mm the map of what was met. -/
structure OvAt (w wr : World) (c dp sb : Nat) (hl : List Nat) (f : Nat → List Nat) (st : List Int) : Prop where
  bs : BS w.heap.size w [sb, sb + 1, sb + 1 + 1] wr c dp 3 zs0 (some (hl, f))
  tells : Tells (txV zs0 (some (hl, f))) st
  s : StB wr sb z80
  t : StB wr (sb + 1) st
  met : MetIs wr (sb + 1 + 1) hl
theorem OvAt.step {w wr w5 : World} {c dp sb K : Nat} {hl : List Nat} {f f' : Nat → List Nat} {st : List Int} (h : OvAt w wr c dp sb hl f st) (hK : K < 80) (v : Int) (hf : f' = updK f (245 + K) (bb v)) (h5 : BS w.heap.size w [sb, sb + 1, sb + 1 + 1] w5 c dp 3 zs0 (some (addK hl (245 + K), f'))) (hs : Same [sb, sb + 1, sb + 1 + 1] wr w5) :
    ∃ es cl, (Instr.mapUpdate 30 (.map (some (sb + 1 + 1))) (.int .i64 (K : Int)) (.int .i64 1)).run Tryd.prog w5 = .ok () (setBlock w5 (sb + 1 + 1) (.map es cl)) ∧ Below w.heap.size w (setBlock w5 (sb + 1 + 1) (.map es cl)) ∧ (setBlock w5 (sb + 1 + 1) (.map es cl)).cell? ⟨sb + 1, K, none⟩ = some (.int .i64 (st.getD K 0)) ∧ (setBlock w5 (sb + 1 + 1) (.map es cl)).frozen? ⟨sb + 1, K, none⟩ = false ∧ OvAt w ((setBlock w5 (sb + 1 + 1) (.map es cl)).setCell ⟨sb + 1, K, none⟩ (.int .i64 v)) c dp sb (addK hl (245 + K)) f' (st.set K v) := by
  subst hf
  have m5 := h.met.blk (hs (sb + 1 + 1) (by simp))
  obtain ⟨es, cl, r1, r2⟩ := m5.store K
  have k6 : Keeps [sb + 1 + 1] w5 (setBlock w5 (sb + 1 + 1) (.map es cl)) := (Keeps.refl _ _).setBlock _ _ (by simp)
  have h6 := h5.keeps k6 (fun x hx => by simp at hx; simp [hx])
  have e6 : ∀ x, x ≠ sb + 1 + 1 → (setBlock w5 (sb + 1 + 1) (.map es cl)).heap[x]? = w5.heap[x]? := fun x hx => setBlock_other _ _ _ _ hx
  have t6 : StB (setBlock w5 (sb + 1 + 1) (.map es cl)) (sb + 1) st := (h.t.blk (hs (sb + 1) (by simp))).blk (e6 _ (by omega))
  have s6 : StB (setBlock w5 (sb + 1 + 1) (.map es cl)) sb z80 := (h.s.blk (hs sb (by simp))).blk (e6 _ (by omega))
  obtain ⟨c1, c2⟩ := t6.cell h.tells.1 K hK
  have k7 : Keeps [sb + 1] (setBlock w5 (sb + 1 + 1) (.map es cl)) ((setBlock w5 (sb + 1 + 1) (.map es cl)).setCell ⟨sb + 1, K, none⟩ (.int .i64 v)) := (Keeps.refl _ _).setCell _ _ (by simp)
  refine ⟨es, cl, r1 w5 rfl, h6.fr.bel, c1, c2, h6.keeps k7 (fun x hx => by simp at hx; simp [hx]), h.tells.write K hK v, s6.blk (heap_setCell_other _ _ _ _ (by show sb ≠ sb + 1; omega)), t6.set K v, (r2 w5 rfl).blk (heap_setCell_other _ _ _ _ (by show sb + 1 + 1 ≠ sb + 1; omega))⟩
set_option maxHeartbeats 1000000 in
theorem cacheOver_walk (a0 : Option Addr) (cap0 : Nat) (l0 : List Stp) (a1 : Bool) (w : World) (ht : Tab w) (w0 : SRow w a0 l0) (m0 : l0.length ≤ 9223372036854775807) :
    Calls Tryd.prog 6 #[.slice a0 l0.length cap0, .bool a1] w fun e w' => e = .returned (.bool true) ∧ Below w.heap.size w w' := by
  have hF := Fr.law ht
  have HF : Hid _ := fresh_any hF
  have m0I : (l0.length : Int) ≤ 9223372036854775807 := by omega
  by_cases hbig : 60 < l0.length
  · have hbI : (60 : Int) < (l0.length : Int) := by omega
    clear HF ht w0
    go_enter Tryd.func6, Tryd.ntmps6
    go_wp2_with (go_at_call 9; refine (awake_any hF).mono ?_; rintro e w4 ⟨rfl, hF4⟩)
    go_ret
    exact ⟨rfl, hF4.bel⟩
  · have hbI : ¬ (60 : Int) < (l0.length : Int) := by omega
    have h100 : (l0.length : Int) ≤ 60 := by omega
    have HW0 : Hid (SRow w a0 l0) := w0
    have hmm := @run_makeMap Tryd.prog
    clear ht hF w0
    go_enter Tryd.func6, Tryd.ntmps6
    go_wp2_with (first
      | (go_at_call 10; refine Calls.mono HF.out ?_; rintro e w2 ⟨dp, c, rfl, hS2⟩)
      | (go_at_call 12; refine (CS.begin hS2).mono ?_; rintro e w3 ⟨rfl, hS3⟩; clear hS2))
    obtain ⟨o1, o2, o3, o4, o5⟩ := ovW w3
    have hB4 : BS w.heap.size w [w3.heap.size, w3.heap.size + 1, w3.heap.size + 1 + 1] (((w3.alloc (.cells Tryd.zeroCells29 29)).alloc (.cells Tryd.zeroCells29 29)).alloc (.map #[] 0)) c dp 3 zs0 tx0 := hS3.boxes o1 _ (fun x hx => by rw [o5]; simp only [List.mem_cons, List.not_mem_nil, or_false] at hx; rcases hx with rfl | rfl | rfl <;> exact ⟨by omega, by omega⟩)
    have HA0 : Hid (OvAt w (((w3.alloc (.cells Tryd.zeroCells29 29)).alloc (.cells Tryd.zeroCells29 29)).alloc (.map #[] 0)) c dp w3.heap.size [] (fun _ => zeros) z80) := ⟨hB4, tells0, o2, o3, MetIs.made o4⟩
    clear hB4 o1 o2 o3 o4 o5 hS3 HF hmm
    go_loopw [10, 12] (fun n i wr => ∃ k hl f st, k ≤ l0.length ∧ i = .int .i64 ((k : Nat) : Int) ∧ n = .int .i64 ((hl.length : Nat) : Int) ∧ OvAt w wr c dp w3.heap.size hl f st) (fun _ i _ => l0.length - (intOf i).toNat)
    case atStart => exact ⟨0, [], _, _, by omega, rfl, rfl, HA0.out⟩
    case round =>
      clear HA0
      obtain ⟨k, hl, f, st, hk, rfl, rfl, hA⟩ := hrel
      have h60 := hA.bs.few
      have h60I : (hl.length : Int) ≤ 60 := by omega
      by_cases hlt : k < l0.length
      · have hltI : (k : Int) < (l0.length : Int) := by omega
        obtain ⟨lk, off, hla, r0, _, _, _, iB, iV⟩ := HW0.out k hlt
        have HRW : Hid (∀ w', Below w.heap.size w w' → w'.cell? ⟨lk, off + k * 3 + 1, none⟩ = some (.int .i64 (l0.getD k stp0).b) ∧ w'.cell? ⟨lk, off + k * 3 + 2, none⟩ = some (.int .i64 (l0.getD k stp0).v)) := fun w' hb => by
          obtain ⟨lk', off', hla', _, q1, q2, _⟩ := (HW0.out.below hb) k hlt
          rw [hla] at hla'
          injection hla' with q
          injection q with y1 y2
          subst y1; subst y2
          exact ⟨q1, q2⟩
        subst hla
        generalize l0.getD k stp0 = sp at *
        clear r0
        obtain ⟨ckind, Bz, Vz⟩ := sp
        dsimp only at HRW iB iV
        have HR1 : Hid (∀ w', Calls Tryd.prog 11 #[.int .i64 Bz, .int .i64 80] w' fun e w'' => e = .returned (.int .i64 ((rd Bz 80 : Nat) : Int)) ∧ w'' = w') := fun w' => round_any Bz 80 w' iB.1 iB.2 (by omega) (by omega)
        have HR2 : Hid (∀ w', Calls Tryd.prog 11 #[.int .i64 Vz, .int .i64 250] w' fun e w'' => e = .returned (.int .i64 ((rd Vz 250 : Nat) : Int)) ∧ w'' = w') := fun w' => round_any Vz 250 w' iV.1 iV.2 (by omega) (by omega)
        have hK := rd_lt Bz 80 (by omega)
        generalize rd Bz 80 = K at *
        generalize rd Vz 250 = Vr at *
        have hKI : (K : Int) < 80 := by omega
        obtain ⟨rb, rv⟩ := HRW.out wr hA.bs.fr.bel
        obtain ⟨zl, hlook⟩ := hA.met.look K
        have HSTEP : Hid (∀ w5 f', f' = updK f (245 + K) (bb ((Vr : Nat) : Int)) → BS w.heap.size w [w3.heap.size, w3.heap.size + 1, w3.heap.size + 1 + 1] w5 c dp 3 zs0 (some (addK hl (245 + K), f')) → Same [w3.heap.size, w3.heap.size + 1, w3.heap.size + 1 + 1] wr w5 → ∃ es cl, (Instr.mapUpdate 30 (.map (some (w3.heap.size + 1 + 1))) (.int .i64 (K : Int)) (.int .i64 1)).run Tryd.prog w5 = .ok () (setBlock w5 (w3.heap.size + 1 + 1) (.map es cl)) ∧ Below w.heap.size w (setBlock w5 (w3.heap.size + 1 + 1) (.map es cl)) ∧ (setBlock w5 (w3.heap.size + 1 + 1) (.map es cl)).cell? ⟨w3.heap.size + 1, K, none⟩ = some (.int .i64 (st.getD K 0)) ∧ (setBlock w5 (w3.heap.size + 1 + 1) (.map es cl)).frozen? ⟨w3.heap.size + 1, K, none⟩ = false ∧ OvAt w ((setBlock w5 (w3.heap.size + 1 + 1) (.map es cl)).setCell ⟨w3.heap.size + 1, K, none⟩ (.int .i64 ((Vr : Nat) : Int))) c dp w3.heap.size (addK hl (245 + K)) f' (st.set K ((Vr : Nat) : Int))) := fun w5 f' e h5 hs => hA.step hK _ e h5 hs
        have HBS : Hid (BS w.heap.size w [w3.heap.size, w3.heap.size + 1, w3.heap.size + 1 + 1] wr c dp 3 zs0 (some (hl, f))) := hA.bs
        have HA : Hid (OvAt w wr c dp w3.heap.size hl f st) := hA
        clear hA
        by_cases hin : 245 + K ∈ hl
        · have hfull : fullB hl (245 + K) = false := by simp [fullB, hin]
          have hadd : (addK hl (245 + K)).length = hl.length := by simp [addK, hin]
          rw [decide_eq_true hin] at hlook
          have HFU : Hid (fullB hl (245 + K) = false) := hfull
          have HLEN : Hid ((addK hl (245 + K)).length = hl.length) := hadd
          clear hin hfull hadd
          go_wp2_with (first
            | (go_at_call_of 11 (Value.int IntKind.i64 Bz); refine (HR1.out _).mono ?_; rintro e w' ⟨rfl, hw⟩; subst w')
            | (go_at_call_of 11 (Value.int IntKind.i64 Vz); refine (HR2.out _).mono ?_; rintro e w' ⟨rfl, hw⟩; subst w')
            | (go_at_call 14; refine (block_any _ _).mono ?_; rintro e w4 ⟨g, rfl, hg4, hge4, hb4⟩; obtain ⟨hS4, hs4⟩ := HBS.out.below hb4)
            | (go_at_call 13; refine (hS4.write K hK HFU.out hg4 (bb_len _) (bb_lt _)).mono ?_; rintro e w5 ⟨rfl, hS5, hs5⟩; obtain ⟨es, cl, p1, p2, p3, p4, p5⟩ := HSTEP.out w5 _ rfl hS5 (fun x hx => (hs5 x hx).trans (hs4 x hx)); obtain ⟨rb6, rv6⟩ := HRW.out _ p2))
          exact ⟨⟨k + 1, _, _, _, by omega, by go_num, by rw [HLEN.out], p5⟩, by simp [intOf]; omega⟩
        · rw [decide_eq_false hin] at hlook
          by_cases h6 : hl.length = 60
          · have h6I : (60 : Int) ≤ (hl.length : Int) := by omega
            clear hin h6
            go_wp2_with (first
              | (go_at_call_of 11 (Value.int IntKind.i64 Bz); refine (HR1.out _).mono ?_; rintro e w' ⟨rfl, hw⟩; subst w'))
            exact ⟨⟨k + 1, hl, f, st, by omega, by go_num, rfl, HA.out⟩, by simp [intOf]; omega⟩
          · have h6I : ¬ (60 : Int) ≤ (hl.length : Int) := by omega
            have HFU : Hid (fullB hl (245 + K) = false) := by show _ = _; simp [fullB, hin, h6]
            have HLEN : Hid ((addK hl (245 + K)).length = hl.length + 1) := by show _ = _; simp [addK, hin]
            clear hin h6
            go_wp2_with (first
              | (go_at_call_of 11 (Value.int IntKind.i64 Bz); refine (HR1.out _).mono ?_; rintro e w' ⟨rfl, hw⟩; subst w')
              | (go_at_call_of 11 (Value.int IntKind.i64 Vz); refine (HR2.out _).mono ?_; rintro e w' ⟨rfl, hw⟩; subst w')
              | (go_at_call 14; refine (block_any _ _).mono ?_; rintro e w4 ⟨g, rfl, hg4, hge4, hb4⟩; obtain ⟨hS4, hs4⟩ := HBS.out.below hb4)
              | (go_at_call 13; refine (hS4.write K hK HFU.out hg4 (bb_len _) (bb_lt _)).mono ?_; rintro e w5 ⟨rfl, hS5, hs5⟩; obtain ⟨es, cl, p1, p2, p3, p4, p5⟩ := HSTEP.out w5 _ rfl hS5 (fun x hx => (hs5 x hx).trans (hs4 x hx)); obtain ⟨rb6, rv6⟩ := HRW.out _ p2))
            exact ⟨⟨k + 1, _, _, _, by omega, by go_num, by rw [HLEN.out]; go_num, p5⟩, by simp [intOf]; omega⟩
      · obtain rfl : k = l0.length := by omega
        obtain ⟨hbs, htl, hs0, ht0, _⟩ := hA
        have hi80 := info29 st htl.1
        have hi0 := info29 z80 tells0.1
        have HIS : Hid (isB (txV zs0 (some (hl, f))) st = true) := htl.is
        have HST : Hid (st.length = 80) := htl.1
        cases a1 with
        | true =>
          go_wp2_with (first
            | (go_at_call 16; refine (hbs.commit (by omega)).mono ?_; rintro e w5 ⟨rfl, hS5, hs5⟩; have hx5 := ht0.blk (hs5 _ (by simp)))
            | (have _h := hx5; refine load_row_g rfl 29 _ rfl (w3.heap.size + 1) rfl 29 (av st) (0, 0) _ hx5 Tryd.underlying29 rfl hi80 ?_; clear _h hx5)
            | (go_at_call 20; refine (is_any hS5.cs rfl st HST.out).mono ?_; rintro e w6 ⟨rfl, hb6⟩; rw [show isB (txV (txV zs0 (some (hl, f))) none) st = true from HIS.out]; have hF6 := hS5.fr.below hb6)
            | (go_at_call 9; refine (awake_any hF6).mono ?_; rintro e w17 ⟨rfl, hF17⟩))
          go_ret
          exact ⟨rfl, hF17.bel⟩
        | false =>
          have HI0 : Hid (isB zs0 z80 = true) := tells0.is
          go_wp2_with (first
            | (go_at_call 17; refine hbs.abort.mono ?_; rintro e w5 ⟨rfl, hS5, hs5⟩; have hx5 := hs0.blk (hs5 _ (by simp)))
            | (have _h := hx5; refine load_row_g rfl 29 _ rfl w3.heap.size rfl 29 (av z80) (0, 0) _ hx5 Tryd.underlying29 rfl hi0 ?_; clear _h hx5)
            | (go_at_call 20; refine (is_any hS5.cs rfl z80 tells0.1).mono ?_; rintro e w6 ⟨rfl, hb6⟩; rw [show isB (txV zs0 none) z80 = true from HI0.out]; have hF6 := hS5.fr.below hb6)
            | (go_at_call 9; refine (awake_any hF6).mono ?_; rintro e w17 ⟨rfl, hF17⟩))
          go_ret
          exact ⟨rfl, hF17.bel⟩
end Go.Proofs.YtohncckmennfbaaDoor
