/- JournalDead's walk. -/
import Derived.Test.YtmodjgailmpfmaaDoorLp
import Derived.Test.YtmodjgailmpfmaaDoorWn
namespace Go.Proofs.YtmodjgailmpfmaaDoor
set_option linter.unusedSimpArgs false
set_option linter.unusedVariables false
open Go.RowKit Go.MapKept Go.Proofs
/-- Where the loop stands. -/
def DeadAt (B : Nat) (E : List Nat) (w8 wr : World) (j dp : Nat) (c : Cs) (k : Nat) (offb : Bool) : Prop :=
  ∃ d T, Fr B E w8 wr ∧ JP B E wr j dp d T offb ∧ d.n = 275 ∧ d.ops ≤ 3 + 345 * k ∧ (offb = false → ∃ st, (st = z30 ∨ st = c.st) ∧ Rest d T (absS st)) ∧ (offb = true → Safe d (absS z30) (absS c.st))
set_option maxRecDepth 100000 in
theorem dead_step {B : Nat} {E : List Nat} {w8 wr : World} {j dp : Nat} {c : Cs} {k : Nat} {v : Value} (h : DeadAt B E w8 wr j dp c k false) (hk : k < 200) (hok : CsOk c z30) (hC : ∀ w', Same E w8 w' → Chg E w' v c) :
    Calls Tryd.prog 18 #[.pointer (some ⟨j, 0, none⟩), v] wr fun e w' => ∃ b : Bool, e = .returned (.int .i64 (if b then 9 else 0)) ∧ DeadAt B E w8 w' j dp c (k + 1) b := by
  obtain ⟨d, T, hF, hJ, hn, ho, h1, _⟩ := h
  obtain ⟨st, hst, hR⟩ := h1 rfl
  have hok' : CsOk c st := by rcases hst with rfl | rfl; exact hok; exact csOk_again hok
  refine (commitG hF hJ hR hn (hC wr hF.same) hok' (by omega)).mono ?_
  rintro e w' ⟨c', rfl, q⟩
  rcases q with ⟨rfl, hF', d', T', hJ', hR', hx⟩ | ⟨rfl, hF', d', T', hJ', hS', hx, _⟩
  · exact ⟨false, rfl, d', T', hF', hJ', hx.n.trans hn, by have := hx.ops; omega, fun _ => ⟨c.st, .inr rfl, hR'⟩, fun q => by cases q⟩
  · refine ⟨true, rfl, d', T', hF', hJ', hx.n.trans hn, by have := hx.ops; omega, (fun q => by cases q), fun _ => ?_⟩
    rcases hst with rfl | rfl
    · exact hS'
    · exact fun F hF => .inr ((hS' F hF).elim id id)
def DeadOpen (B : Nat) (E : List Nat) (w8 : World) (c : Cs) (e : Ending) (w' : World) : Prop :=
  ∃ st, (st = z30 ∨ st = c.st) ∧ OpenedPost B E w8 275 (absS st) e w'
set_option maxRecDepth 100000 in
set_option maxHeartbeats 1000000 in
theorem journalDead_walk (a0 : Int) (a1 : Option Addr) (cap1 : Nat) (l1 : List (Int × Int)) (w : World) (ht : Tab w) (w0 : (Lit.int .i64 a0).wf = true) (w1 : LRow w a1 l1) (m1 : l1.length ≤ 9223372036854775807) :
    Calls Tryd.prog 8 #[.int .i64 a0, .slice a1 l1.length cap1] w fun e w' => e = .returned (.bool true) ∧ Below w.heap.size w w' := by
  have hF := Fr.law ht
  obtain ⟨z1, z2⟩ := bd64 w0
  have mI : (l1.length : Int) ≤ 9223372036854775807 := by omega
  by_cases hA : 0 ≤ a0 ∧ a0 ≤ 300 ∧ l1.length ≤ 50 ∧ l1.length ≠ 0
  case neg =>
    have HAW : Hid _ := awake_any hF
    clear hF w1 ht
    generalize l1.length = N at *
    by_cases n1 : 0 ≤ a0
    · by_cases n2 : a0 ≤ 300
      · by_cases n3 : N ≤ 50
        · obtain rfl : N = 0 := by omega
          clear hA
          go_enter Tryd.func8, Tryd.ntmps8
          go_wp2_with (go_at_call 15; refine Calls.mono HAW.out ?_; rintro e w2 ⟨rfl, hF2⟩)
          go_ret
          exact ⟨rfl, hF2.bel⟩
        · have n3I : (50 : Int) < (N : Int) := by omega
          clear hA
          go_enter Tryd.func8, Tryd.ntmps8
          go_wp2_with (go_at_call 15; refine Calls.mono HAW.out ?_; rintro e w2 ⟨rfl, hF2⟩)
          go_ret
          exact ⟨rfl, hF2.bel⟩
      · clear hA
        go_enter Tryd.func8, Tryd.ntmps8
        go_wp2_with (go_at_call 15; refine Calls.mono HAW.out ?_; rintro e w2 ⟨rfl, hF2⟩)
        go_ret
        exact ⟨rfl, hF2.bel⟩
    · clear hA
      go_enter Tryd.func8, Tryd.ntmps8
      go_wp2_with (go_at_call 15; refine Calls.mono HAW.out ?_; rintro e w2 ⟨rfl, hF2⟩)
      go_ret
      exact ⟨rfl, hF2.bel⟩
  obtain ⟨n1, n2, n3, n4⟩ := hA
  have n3I : (l1.length : Int) ≤ 50 := by omega
  have n4I : (l1.length : Int) ≠ 0 := by omega
  have hne : l1 ≠ [] := fun e => n4 (by rw [e]; rfl)
  have HF : Hid _ := fresh_any hF
  have HAW : Hid _ := awake_any hF
  have HOK : Hid (CsOk (csOf l1 z30) z30) := csOk l1 z30 z30_len
  have HNE : Hid ((csOf l1 z30).hl ≠ []) := csOf_some hne
  have HL : Hid (∀ w' E, Fr w.heap.size E w w' → Calls Tryd.prog 17 #[.slice a1 l1.length cap1, .agg (av z30)] w' (ChgPost w' l1 z30)) := fun w' E h => changes_any a1 cap1 l1 z30 w' (w1.below h.bel) m1 z30_len
  have hz := info30 z30 z30_len
  have hz2 := info30 _ HOK.out.stl
  have hone := av_one (csOf l1 z30).st
  have hsz : (av z30).size = (av (csOf l1 z30).st).size := by rw [av_size, av_size, HOK.out.stl]; rfl
  have HST : Hid (∀ w3 dp j d, Fr w.heap.size [] w w3 → JP w.heap.size [] w3 j dp d [] false → Calls Tryd.prog 30 #[.pointer (some ⟨dp, 0, none⟩), .int .i64 a0] (w3.alloc (.cells (av z30) 30)) fun e w5 => (∃ v, e = .returned v) ∧ Fr w.heap.size [w3.heap.size] (w3.alloc (.cells (av z30) 30)) w5 ∧ JP w.heap.size [w3.heap.size] w5 j dp (d.cutAt a0) [] false ∧ Fr w.heap.size [] w w5 ∧ w5.heap[w3.heap.size]? = some (.cells (av z30) 30 (0, 0))) := fun w3 dp j d h1 h2 => by
    obtain ⟨g1, g2, g3, g4⟩ := box_z h1 h2
    refine (cutJ g1 g2 a0 (by omega)).mono ?_
    rintro e w5 ⟨q1, q2, q3⟩
    exact ⟨q1, q2, q3, g3.trans q2 (by simp), (q2.same _ (by simp)).trans g4⟩
  have HCH : Hid (∀ w4 w5 w6 b dp j d v x, Fr w.heap.size [b] w4 w5 → Fr w.heap.size [] w w5 → JP w.heap.size [b] w5 j dp (d.cutAt a0) [] false → Rest d [] zs0 → d.n = 275 → d.ops ≤ 3 → w5.heap[b]? = some (.cells (av z30) 30 (0, 0)) → ChgPost w5 l1 z30 (.returned (.tuple #[v, x])) w6 → x = .agg (av (csOf l1 z30).st) ∧ ∃ E, DeadAt w.heap.size E ((w6.alloc (.cells (av z30) 30)).setRow w6.heap.size (av (csOf l1 z30).st)) ((w6.alloc (.cells (av z30) 30)).setRow w6.heap.size (av (csOf l1 z30).st)) j dp (csOf l1 z30) 0 false ∧ (∀ w', Same E ((w6.alloc (.cells (av z30) 30)).setRow w6.heap.size (av (csOf l1 z30).st)) w' → Chg E w' v (csOf l1 z30) ∧ w'.heap[b]? = some (.cells (av z30) 30 (0, 0)) ∧ w'.heap[w6.heap.size]? = some (.cells (av (csOf l1 z30).st) 30 (0, 0))) ∧ Fr w.heap.size [] w ((w6.alloc (.cells (av z30) 30)).setRow w6.heap.size (av (csOf l1 z30).st))) := by
    intro w4 w5 w6 b dp j d v x h1 h0 h2 hR hn ho hb h6
    obtain ⟨rfl, hv, E', hE1, hE2, hF8, hJ8, hC8, hx8, hb8⟩ := box_chg z30_len h1 h2 h6 (av z30)
    have hbl := (Array.getElem?_eq_some_iff.1 hb).1
    exact ⟨rfl, E', ⟨d.cutAt a0, [], hF8, hJ8, hn, (by show d.ops ≤ _; omega), fun _ => ⟨z30, .inl rfl, rest_z30 ((Like.cutAt d a0).rest hR)⟩, fun q => by cases q⟩, fun w' hs => ⟨hC8.same hs, by rw [hs b (hE1 b (by simp)), hb8.block b hbl]; exact hb, by rw [hs _ hE2]; exact hx8⟩, h0.below hb8⟩
  have HCT : Hid (∀ E w8 wr j dp k b, DeadAt w.heap.size E w8 wr j dp (csOf l1 z30) k b → Calls Tryd.prog 30 #[.pointer (some ⟨dp, 0, none⟩), .int .i64 100000] wr fun e w' => (∃ v, e = .returned v) ∧ DeadAt w.heap.size E w8 w' j dp (csOf l1 z30) k b) := by
    rintro E w8 wr j dp k b ⟨d, T, h1, h2, h3, h4, h5, h6⟩
    refine (cutJ h1 h2 100000 (by omega)).mono ?_
    rintro e w' ⟨q1, q2, q3⟩
    exact ⟨q1, d.cutAt 100000, T, q2, q3, h3, h4, fun e => (by obtain ⟨st, a, b⟩ := h5 e; exact ⟨st, a, (Like.cutAt d _).rest b⟩), fun e => (Like.cutAt d _).safe (h6 e)⟩
  have HSO : Hid (∀ E w8 wr j dp k, DeadAt w.heap.size E w8 wr j dp (csOf l1 z30) k true → Calls Tryd.prog 19 #[.pointer (some ⟨j, 0, none⟩)] wr fun e w' => e = .returned (.int .i64 9) ∧ w' = wr) := by
    rintro E w8 wr j dp k ⟨d, T, h1, ⟨FP, h2, _⟩, _⟩
    exact sync_off h2
  have HCO : Hid (∀ E w8 wr j dp k v, DeadAt w.heap.size E w8 wr j dp (csOf l1 z30) k true → Chg E wr v (csOf l1 z30) → Calls Tryd.prog 18 #[.pointer (some ⟨j, 0, none⟩), v] wr fun e w' => e = .returned (.int .i64 9) ∧ DeadAt w.heap.size E w8 w' j dp (csOf l1 z30) k true) := by
    rintro E w8 wr j dp k v ⟨d, T, h1, h2, h3, h4, h5, h6⟩ hC
    refine (commitX h2 h3 hC HNE.out).mono ?_
    rintro e w' ⟨rfl, hb⟩
    exact ⟨rfl, d, T, h1.below hb, h2.below hb, h3, h4, h5, h6⟩
  have HCR : Hid (∀ E w8 wr j dp k, DeadAt w.heap.size E w8 wr j dp (csOf l1 z30) k true → Calls Tryd.prog 29 #[.pointer (some ⟨dp, 0, none⟩), .slice none 0 0] wr fun e w' => ∃ c, e = .returned (.pointer (some ⟨c, 0, none⟩)) ∧ Fr w.heap.size E w8 w' ∧ ∃ st, (st = z30 ∨ st = (csOf l1 z30).st) ∧ Calls Tryd.prog 31 #[.pointer (some ⟨c, 0, none⟩), .slice none 0 0, .slice none 0 0] w' (OpenedPost w.heap.size E w8 275 (absS st))) := by
    rintro E w8 wr j dp k ⟨d, T, h1, h2, h3, h4, h5, h6⟩
    refine (crashF h1 h2.dev none [] 0 (RowI.nil _ _) (by simp)).mono ?_
    rintro e w' ⟨c, rfl, g1, g2, _⟩
    refine ⟨c, rfl, g1, ?_⟩
    rcases (h6 rfl).crash (by omega) [] with ⟨T', hR⟩ | ⟨T', hR⟩
    · exact ⟨_, .inl rfl, by have := opened_any g1 g2 hR rfl rfl none none 0 0 [] [] (fun _ _ => RowI.nil _ _) (fun _ _ => RowI.nil _ _) (by simp) (by simp); rw [show (d.crash []).n = 275 from h3] at this; exact this⟩
    · exact ⟨_, .inr rfl, by have := opened_any g1 g2 hR rfl rfl none none 0 0 [] [] (fun _ _ => RowI.nil _ _) (fun _ _ => RowI.nil _ _) (by simp) (by simp); rw [show (d.crash []).n = 275 from h3] at this; exact this⟩
  have HSTEP : Hid (∀ E w8 wr j dp k v, DeadAt w.heap.size E w8 wr j dp (csOf l1 z30) k false → k < 200 → (∀ w', Same E w8 w' → Chg E w' v (csOf l1 z30)) → Calls Tryd.prog 18 #[.pointer (some ⟨j, 0, none⟩), v] wr fun e w' => ∃ b : Bool, e = .returned (.int .i64 (if b then 9 else 0)) ∧ DeadAt w.heap.size E w8 w' j dp (csOf l1 z30) (k + 1) b) := fun E w8 wr j dp k v h1 h2 h3 => dead_step h1 h2 HOK.out h3
  have hst := HOK.out.stl
  clear hF w1 ht HNE HOK hne n4 n3
  generalize csOf l1 z30 = c at *
  go_enter Tryd.func8, Tryd.ntmps8
  go_wp2_with (first
    | (go_at_call 15; refine Calls.mono HAW.out ?_; rintro e wA ⟨rfl, hFA⟩)
    | (go_at_call 16; refine Calls.mono HF.out ?_; rintro e w3 ⟨dp, j, d, rfl, hF3, hJ3, hR3, hn3, hc3, ho3⟩)
    | (go_at_call 30; refine (HST.out w3 dp j d hF3 hJ3).mono ?_; rintro e w5 ⟨⟨v5, rfl⟩, hF5, hJ5, hF5', hx5⟩; clear hF3 hJ3)
    | (refine wpList_load_row rfl 30 _ rfl w3.heap.size rfl 30 (av z30) (0, 0) _ hx5 Tryd.underlying30 rfl hz ?_)
    | (go_at_call 17; refine (HL.out w5 _ hF5').mono ?_; intro e w6 h6; obtain ⟨v, gs, rfl, _⟩ := id h6; obtain ⟨_, E, hD8, hS8, hF8⟩ := HCH.out _ w5 w6 w3.heap.size dp j d _ _ hF5 hF5' hJ5 hR3 hn3 ho3 hx5 h6; have e6 := heap_alloc_new w6 (.cells (av z30) 30))
    | (refine wpList_store_row rfl 30 _ _ rfl w6.heap.size (av c.st) rfl rfl 30 (av z30) e6 hz2 hsz hone ?_))
  · go_ret
    exact ⟨rfl, hFA.bel⟩
  go_loopw [11, 12] (fun o i wr => ∃ k b, k ≤ 200 ∧ i = .int .i64 ((k : Nat) : Int) ∧ o = .bool b ∧ DeadAt w.heap.size E ((w6.alloc (.cells (av z30) 30)).setRow w6.heap.size (av c.st)) wr j dp c k b) (fun _ i _ => 200 - (intOf i).toNat)
  case atStart => exact ⟨0, false, by omega, rfl, rfl, hD8⟩
  case round =>
    clear hD8 hF5 hF5' hJ5 hR3 hx5 e6 h6 HL HCH HST HF
    have HF8 : Hid _ := hF8
    have HS8 : Hid _ := hS8
    clear hF8 hS8
    generalize ((w6.alloc (.cells (av z30) 30)).setRow w6.heap.size (av c.st)) = w8 at *
    obtain ⟨k, b, hk, rfl, rfl, hD⟩ := hrel
    have HFIN : Hid (∀ w', DeadAt w.heap.size E w8 w' j dp c k b → Fr w.heap.size [] w w') := by
      rintro w' ⟨d, T, h1, _⟩
      exact HF8.out.trans h1 (by simp)
    have HEND : Hid _ := HCT.out E w8 wr j dp k b hD
    cases b with
    | false =>
      by_cases hlt : k < 200
      · have hltI : (k : Int) < 200 := by omega
        have HCM : Hid _ := HSTEP.out E w8 wr j dp k v hD hlt (fun w' hs => (HS8.out w' hs).1)
        clear hD HEND HFIN
        go_wp2_with (go_at_call 18; refine Calls.mono HCM.out ?_; rintro e w9 ⟨b, rfl, hD9⟩; cases b)
        · exact ⟨⟨k + 1, false, by omega, by go_num, rfl, hD9⟩, by simp [intOf]; omega⟩
        · exact ⟨⟨k + 1, true, by omega, by go_num, rfl, hD9⟩, by simp [intOf]; omega⟩
      · obtain rfl : k = 200 := by omega
        clear hD
        go_wp2_with (first
          | (go_at_call 30; refine Calls.mono HEND.out ?_; rintro e w9 ⟨⟨v9, rfl⟩, hD9⟩; have hF9 := HFIN.out w9 hD9)
          | (go_at_call 15; refine (awake_any hF9).mono ?_; rintro e w10 ⟨rfl, hF10⟩))
        go_ret
        exact ⟨rfl, hF10.bel⟩
    | true =>
      have HOO : Hid (∀ st w' p q, (st = z30 ∨ st = c.st) → OpenedPost w.heap.size E w8 275 (absS st) (.returned (.tuple #[p, .pointer q, .bool true])) w' → ∃ j' dp' d T, q = some ⟨j', 0, none⟩ ∧ Fr w.heap.size E w8 w' ∧ JP w.heap.size E w' j' dp' d T false ∧ Rest d T (absS st) ∧ d.n = 275) := by
        rintro st w' p q _ ⟨dp', j', d, T, e, h1, h2, h3, h4, _⟩
        simp only [Ending.returned.injEq, Value.tuple.injEq, Array.mk.injEq, List.cons.injEq, and_true, Value.pointer.injEq] at e
        exact ⟨j', dp', d, T, e.2, h1, h2, h3, h4⟩
      have HX1 : Hid (∀ w', Fr w.heap.size E w8 w' → w'.heap[w3.heap.size]? = some (.cells (av z30) 30 (0, 0)) ∧ w'.heap[w6.heap.size]? = some (.cells (av c.st) 30 (0, 0))) := fun w' h => (HS8.out w' h.same).2
      have HFX : Hid (∀ w', Fr w.heap.size E w8 w' → Fr w.heap.size [] w w') := fun w' h => HF8.out.trans h (by simp)
      have HCH : Hid (∀ w', DeadAt w.heap.size E w8 w' j dp c k true → Chg E w' v c) := by
        rintro w' ⟨d, T, h1, _⟩
        exact (HS8.out w' h1.same).1
      have HBB : Hid (∀ st, (st = z30 ∨ st = c.st) → isB (absS st) z30 = false → isB (absS st) c.st = true) := by
        rintro st (rfl | rfl) h
        · rw [isB_self] at h; cases h
        · exact isB_self _
      clear hD HFIN
      go_wp2_with (first
          | (go_at_call 30; refine Calls.mono HEND.out ?_; rintro e w9 ⟨⟨v9, rfl⟩, hD9⟩)
          | (go_at_call 18; refine (HCO.out E w8 w9 j dp k v hD9 (HCH.out w9 hD9)).mono ?_; rintro e w10 ⟨rfl, hD10⟩)
          | (go_at_call 19; refine (HSO.out E w8 w10 j dp k hD10).mono ?_; rintro e w11 ⟨rfl, hw⟩; subst w11)
          | (go_at_call 29; refine (HCR.out E w8 w10 j dp k hD10).mono ?_; rintro e w11 ⟨cr, rfl, hF11, st, hst2, HOP⟩; have HOP' : Hid _ := HOP; clear HOP)
          | (go_at_call 31; refine Calls.mono HOP'.out ?_; rintro e w12 ⟨dp', j', d', T', rfl, hF12, hJ12, hR12, hn12, _, _⟩; obtain ⟨x1, x2⟩ := HX1.out w12 hF12)
          | (refine load_row_g rfl 30 _ rfl w3.heap.size rfl 30 (av z30) (0, 0) _ x1 Tryd.underlying30 rfl hz ?_)
          | (go_at_call_of 24 (Value.agg (av z30)); refine (is_any hJ12 hR12 hn12 z30 z30_len).mono ?_; rintro e w13 ⟨rfl, hb13⟩; have hF13 := hF12.below hb13; have hJ13 := hJ12.below hb13; obtain ⟨_, y2⟩ := HX1.out w13 hF13; have hF14 := HFX.out _ hF13; have HB2 := HBB.out st hst2; obtain ⟨bx, hbx⟩ : ∃ b, isB (absS st) z30 = b := ⟨_, rfl⟩; rw [hbx]; cases bx)
          | (refine load_row_g rfl 30 _ rfl w6.heap.size rfl 30 (av c.st) (0, 0) _ y2 Tryd.underlying30 rfl hz2 ?_)
          | (go_at_call_of 24 (Value.agg (av c.st)); refine (is_any hJ13 hR12 hn12 c.st hst).mono ?_; rintro e w15 ⟨rfl, hb15⟩; rw [HB2 hbx]; have hF15 := hF14.below hb15; clear hF14; have hF14 := hF15)
          | (go_at_call 15; refine (awake_any hF14).mono ?_; rintro e w16 ⟨rfl, hF16⟩))
      all_goals
        go_ret
        exact ⟨rfl, hF16.bel⟩
end Go.Proofs.YtmodjgailmpfmaaDoor
