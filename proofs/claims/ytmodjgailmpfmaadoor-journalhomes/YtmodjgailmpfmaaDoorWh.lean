/- JournalHomes' walk. -/
import Derived.Test.YtmodjgailmpfmaaDoorLq
namespace Go.Proofs.YtmodjgailmpfmaaDoor
set_option linter.unusedSimpArgs false
set_option linter.unusedVariables false
open Go.RowKit Go.MapKept Go.Proofs
/-- A device that others write homes of. -/
structure Hv (d : Dv) (st : List Int) (M : Nat) : Prop where
  n : d.n = 275
  cut : d.cut = false
  ops : d.ops ≤ M
  tab : d.cur 0 = tabL []
  view : ∀ k, 245 ≤ k → k < 275 → d.cur k = absS st k
theorem Hv.rest {d : Dv} {st : List Int} {M : Nat} (h : Hv d st M) : Rest d.flush [] (absS st) :=
  ⟨⟨by show 246 ≤ d.n; rw [h.n]; omega, GoodT.nil _, h.tab, rfl, fun k h1 h2 => by
    have h3 : k < 275 := by have : k < d.n := h2; rw [h.n] at this; exact this
    rw [find_nil]; exact ⟨h.view k h1 h3, rfl⟩⟩, fun _ => rfl⟩
theorem Hv.of {d : Dv} {st : List Int} (hR : Rest d [] (absS st)) (hn : d.n = 275) (hc : d.cut = false) (M : Nat) (ho : d.ops ≤ M) : Hv d st M :=
  ⟨hn, hc, ho, (cur_none (hR.none 0)).trans hR.ph.tab, fun k h1 h2 => by have := rest_read hR h1 (by omega); rw [find_nil] at this; exact this⟩
theorem Hv.write {d : Dv} {st : List Int} {M : Nat} (h : Hv d st M) (hl : st.length = 30) (K : Nat) (hK : K < 30) (z : Int) : d.wrote ((245 + K : Nat) : Int) (bb z) = d.tick.add (245 + K) (bb z) ∧ Hv (d.tick.add (245 + K) (bb z)) (st.set K z) (M + 1) := by
  constructor
  · unfold Dv.wrote
    rw [if_pos]
    · rfl
    · rw [on_uncut h.cut]; simp [hasB, bb_len, h.n]; omega
  · refine ⟨h.n, h.cut, (by show d.ops + 1 ≤ _; have := h.ops; omega), ?_, fun k h1 h2 => ?_⟩
    · rw [cur_add, if_neg (by omega)]; exact h.tab
    · rw [cur_add]
      unfold absS
      rw [getD_setI _ _ _ _ (by omega)]
      by_cases e : k = 245 + K
      · rw [if_pos e, if_pos (by omega)]
      · rw [if_neg e, if_neg (by omega)]; exact h.view k h1 h2
/-- The loop's state: the box, the journal, the device. -/
def JH (B : Nat) (w wr : World) (b : Nat) (st : List Int) (j dp M : Nat) : Prop :=
  ∃ d, Fr B [] w wr ∧ B ≤ b ∧ wr.heap[b]? = some (.cells (av st) 30 (0, 0)) ∧ st.length = 30 ∧ JP B [b] wr j dp d [] false ∧ Hv d st M
theorem JH.fr {B : Nat} {w wr : World} {b : Nat} {st : List Int} {j dp M : Nat} (h : JH B w wr b st j dp M) : Fr B [] w wr := by obtain ⟨d, h1, _⟩ := h; exact h1
theorem JH.box {B : Nat} {w wr : World} {b : Nat} {st : List Int} {j dp M : Nat} (h : JH B w wr b st j dp M) : wr.heap[b]? = some (.cells (av st) 30 (0, 0)) ∧ st.length = 30 := by obtain ⟨d, _, _, h1, h2, _⟩ := h; exact ⟨h1, h2⟩
theorem JH.write {B : Nat} {w wr w3 : World} {b g : Nat} {st : List Int} {j dp M : Nat} (h : JH B w wr b st j dp M) (hM : M < 1000000) (K : Nat) (hK : K < 30) (z : Int) (hb : Below (wr.setCell ⟨b, K, none⟩ (.int .i64 z)).heap.size (wr.setCell ⟨b, K, none⟩ (.int .i64 z)) w3) (hg : Full w3 g 5 (bb z)) :
    Calls Tryd.prog 33 #[.pointer (some ⟨dp, 0, none⟩), .int .i64 (245 + (K : Int)), .slice (some ⟨g, 0, none⟩) 512 512] w3 fun e w' => e = .returned (.int .i64 0) ∧ JH B w w' b (st.set K z) j dp (M + 1) := by
  obtain ⟨d, h1, h2, h3, h4, h5, h6⟩ := h
  have hbl := (Array.getElem?_eq_some_iff.1 h3).1
  have k : Keeps [b] wr (wr.setCell ⟨b, K, none⟩ (.int .i64 z)) := (Keeps.refl _ _).setCell _ _ (.inl (by simp))
  have g1 := h1.keeps k (fun x hx => by simp at hx; subst hx; exact ⟨h2, by simp⟩)
  have g2 := h5.keeps1 k (by simp)
  have g3 : (wr.setCell ⟨b, K, none⟩ (.int .i64 z)).heap[b]? = some (.cells (av (st.set K z)) 30 (0, 0)) := by rw [heap_setCell_same _ _ _ _ _ _ h3, av_set]
  have q1 := g1.below hb
  have q2 := g2.below hb
  have q3 := (hb.block b (Array.getElem?_eq_some_iff.1 g3).1).trans g3
  generalize wr.setCell ⟨b, K, none⟩ (.int .i64 z) = w2 at *
  have hFb : Fr B [b] w3 w3 := q1.more (fun x hx => by simp at hx; subst hx; exact (Array.getElem?_eq_some_iff.1 q3).1)
  obtain ⟨FP, ⟨F, lb, rfl, hd, hj, hx1, hx2⟩, hFP⟩ := q2
  obtain ⟨e1, e2⟩ := h6.write h4 K hK z
  have := writeD hd ((245 + K : Nat) : Int) g (bb z) (by decide) hg (bb_lt z) (by rw [bb_len]; omega) (by have := h6.ops; omega)
  rw [bb_len, e1, show ((245 + K : Nat) : Int) = 245 + (K : Int) by omega] at this
  refine this.mono ?_
  rintro e w' ⟨rfl, F', hd', hkk, hgr⟩
  obtain ⟨p1, p2⟩ := JP.step hFb hj hx1 hx2 hFP hd' hkk hgr
  refine ⟨?_, _, q1.trans p1 (by simp), h2, (p1.same b (by simp)).trans q3, by simp [h4], p2, e2⟩
  rw [show d.wcode (245 + (K : Int)) 512 = 0 by
    unfold Dv.wcode
    rw [on_uncut h6.cut, if_pos rfl, if_pos]
    simp [hasB, h6.n]; omega]
theorem JH.flush {B : Nat} {w wr : World} {b : Nat} {st : List Int} {j dp M : Nat} (h : JH B w wr b st j dp M) (hM : M < 1000000) :
    Calls Tryd.prog 34 #[.pointer (some ⟨dp, 0, none⟩)] wr fun e w' => (∃ v, e = .returned v) ∧ JS B w w' b st j dp (M + 1) := by
  obtain ⟨d, h1, h2, h3, h4, h5, h6⟩ := h
  have hbl := (Array.getElem?_eq_some_iff.1 h3).1
  have hFb : Fr B [b] wr wr := h1.more (fun x hx => by simp at hx; omega)
  obtain ⟨FP, ⟨F, lb, rfl, hd, hj, hx1, hx2⟩, hFP⟩ := h5
  refine (flushD hd (by have := h6.ops; omega)).mono ?_
  rintro e w' ⟨rfl, F', hd', hkk, hgr⟩
  have e1 : d.flushed = d.tick.flush := by unfold Dv.flushed; rw [on_uncut h6.cut]; rfl
  rw [e1] at hd'
  obtain ⟨p1, p2⟩ := JP.step hFb hj hx1 hx2 hFP hd' hkk hgr
  have ht : Hv d.tick st (M + 1) := ⟨h6.n, h6.cut, (by show d.ops + 1 ≤ _; have := h6.ops; omega), h6.tab, h6.view⟩
  exact ⟨⟨_, rfl⟩, d.tick.flush, [], h1.trans p1 (by simp), h2, (p1.same b (by simp)).trans h3, h4, p2, ht.rest, h6.n, h6.cut, ht.ops⟩
/-- The commit of what changes made; from now on the new state's box. -/
theorem JS.commit2 {B : Nat} {w wr w6 : World} {b : Nat} {st : List Int} {j dp M : Nat} (h : JS B w wr b st j dp M) (hM : M + 345 ≤ 1000000) {cl : List (Int × Int)} {v x : Value} (h6 : ChgPost wr cl st (.returned (.tuple #[v, x])) w6) (Z : Array Value) :
    Calls Tryd.prog 18 #[.pointer (some ⟨j, 0, none⟩), v] ((w6.alloc (.cells Z 30)).setRow w6.heap.size (av (csOf cl st).st)) fun e w' => e = .returned (.int .i64 0) ∧ JS B w w' w6.heap.size (csOf cl st).st j dp (M + 345) := by
  obtain ⟨d, T, h1, h2, h3, h4, h5, hR, hn, hc, ho⟩ := h
  have hbl := (Array.getElem?_eq_some_iff.1 h3).1
  have hFb : Fr B [b] wr wr := h1.more (fun x hx => by simp at hx; omega)
  obtain ⟨_, hb6, _⟩ := chg_of h4 h6
  obtain ⟨rfl, hv, E', hE1, hE2, hF8, hJ8, hC8, hx8, hb8⟩ := box_chg h4 hFb h5 h6 Z
  have hok := csOk cl st h4
  refine (commitG hF8 hJ8 hR hn hC8 hok (by omega)).mono ?_
  rintro e w' ⟨c, rfl, q⟩
  rcases q with ⟨rfl, hF', d', T', hJ', hR', hx⟩ | ⟨rfl, hF', d', T', hJ', hS', hx, hcut⟩
  · exact ⟨rfl, d', T', (h1.below hb8).trans hF' (by simp), Nat.le_trans (Nat.le_trans h1.big h1.size) hb6.size, (hF'.same _ hE2).trans hx8, hok.stl, hJ'.ext (fun y hy => .inl (by simp at hy; subst hy; exact hE2)), hR', hx.n.trans hn, hx.cut.trans hc, by have := hx.ops; omega⟩
  · rw [hx.cut, hc] at hcut; cases hcut
set_option maxRecDepth 100000 in
set_option maxHeartbeats 2000000 in
theorem journalHomes_walk (a0 : Option Addr) (cap0 : Nat) (l0 : List (Int × Int)) (a1 : Option Addr) (cap1 : Nat) (l1 : List (Int × Int)) (w : World) (ht : Tab w) (w0 : LRow w a0 l0) (m0 : l0.length ≤ 9223372036854775807) (w1 : LRow w a1 l1) (m1 : l1.length ≤ 9223372036854775807) :
    Calls Tryd.prog 11 #[.slice a0 l0.length cap0, .slice a1 l1.length cap1] w fun e w' => e = .returned (.bool true) ∧ Below w.heap.size w w' := by
  have hF := Fr.law ht
  have HAW : Hid _ := awake_any hF
  have m0I : (l0.length : Int) ≤ 9223372036854775807 := by omega
  have m1I : (l1.length : Int) ≤ 9223372036854775807 := by omega
  by_cases hA : l0.length ≤ 60 ∧ l1.length ≤ 60
  case neg =>
    clear hF ht w0 w1
    generalize l0.length = N0 at *
    generalize l1.length = N1 at *
    by_cases n1 : N0 ≤ 60
    · have n1I : (N0 : Int) ≤ 60 := by omega
      have n2I : ¬ (N1 : Int) ≤ 60 := by omega
      clear hA
      go_enter Tryd.func11, Tryd.ntmps11
      go_wp2_with (go_at_call 15; refine Calls.mono HAW.out ?_; rintro e w2 ⟨rfl, hF2⟩)
      go_ret
      exact ⟨rfl, hF2.bel⟩
    · have n1I : ¬ (N0 : Int) ≤ 60 := by omega
      clear hA
      go_enter Tryd.func11, Tryd.ntmps11
      go_wp2_with (go_at_call 15; refine Calls.mono HAW.out ?_; rintro e w2 ⟨rfl, hF2⟩)
      go_ret
      exact ⟨rfl, hF2.bel⟩
  obtain ⟨n1, n2⟩ := hA
  have n1I : (l0.length : Int) ≤ 60 := by omega
  have n2I : (l1.length : Int) ≤ 60 := by omega
  have HF : Hid _ := fresh_any hF
  have HL0 : Hid (∀ w', Fr w.heap.size [] w w' → LRow w' a0 l0) := fun w' h => w0.below h.bel
  have HL1 : Hid (∀ w', Fr w.heap.size [] w w' → LRow w' a1 l1) := fun w' h => w1.below h.bel
  have HLT : Hid (∀ i, i < l0.length → ∃ lk off, a0 = some ⟨lk, off, none⟩ ∧ lk < w.heap.size) := fun i hi => by
    obtain ⟨lk, off, e, h1, _⟩ := w0 i hi
    exact ⟨lk, off, e, World.block_lt_of_cell? _ _ h1⟩
  have HJ0 : Hid (∀ w3 j dp d, Fr w.heap.size [] w w3 → JP w.heap.size [] w3 j dp d [] false → Rest d [] zs0 → d.n = 275 → d.cut = false → d.ops ≤ 3 → JH w.heap.size w (w3.alloc (.cells (av z30) 30)) w3.heap.size z30 j dp 3) := fun w3 j dp d h1 h2 h3 h4 h5 h6 => by
    obtain ⟨g1, g2, g3, g4⟩ := box_z h1 h2
    exact ⟨d, g3, Nat.le_trans h1.big h1.size, g4, z30_len, g2, Hv.of (rest_z30 h3) h4 h5 3 h6⟩
  clear hF ht w0 w1
  go_enter Tryd.func11, Tryd.ntmps11
  go_wp2_with (first
    | (go_at_call 15; refine Calls.mono HAW.out ?_; rintro e wA ⟨rfl, hFA⟩)
    | (go_at_call 16; refine Calls.mono HF.out ?_; rintro e w3 ⟨dp, j, d, rfl, hF3, hJ3, hR3, hn3, hc3, ho3⟩; have hJH := HJ0.out w3 j dp d hF3 hJ3 hR3 hn3 hc3 ho3; clear hF3 hJ3 hR3 hn3 hc3 ho3))
  go_loopw [9] (fun i wr => ∃ k st, k ≤ l0.length ∧ i = .int .i64 ((k : Nat) : Int) ∧ JH w.heap.size w wr w3.heap.size st j dp (3 + k)) (fun i _ => l0.length - (intOf i).toNat)
  case atStart => exact ⟨0, z30, by omega, rfl, hJH⟩
  case round =>
    clear hJH HJ0 HF HAW d
    obtain ⟨k, st, hk, rfl, hH⟩ := hrel
    by_cases hlt : k < l0.length
    · have hltI : (k : Int) < (l0.length : Int) := by omega
      obtain ⟨lk, off, rfl, r1, r2, r3, r4⟩ := HL0.out wr hH.fr k hlt
      generalize l0.getD k (0, 0) = pp at *
      obtain ⟨Bz, Vz⟩ := pp
      dsimp only at r1 r2 r3 r4
      have hR1 := fun w' => round_any Bz 30 w' r3.1 r3.2 (by omega) (by omega)
      have hR2 := fun w' => round_any Vz 200 w' r4.1 r4.2 (by omega) (by omega)
      have hK := rd_lt Bz 30 (by omega)
      have hVr := rd_lt Vz 200 (by omega)
      have HR1 : Hid (∀ w', Calls Tryd.prog 32 #[.int .i64 Bz, .int .i64 30] w' fun e w'' => e = .returned (.int .i64 ((rd Bz 30 : Nat) : Int)) ∧ w'' = w') := hR1
      have HR2 : Hid (∀ w', Calls Tryd.prog 32 #[.int .i64 Vz, .int .i64 200] w' fun e w'' => e = .returned (.int .i64 ((rd Vz 200 : Nat) : Int)) ∧ w'' = w') := hR2
      clear hR1 hR2
      generalize rd Bz 30 = K at *
      generalize rd Vz 200 = Vr at *
      have hKI : (K : Int) < 30 := by omega
      obtain ⟨hbx, hst⟩ := hH.box
      have hcl : wr.cell? ⟨w3.heap.size, K, none⟩ = some (.int .i64 (st.getD K 0)) := by rw [cell_of_row _ _ _ _ _ _ hbx]; exact av_get _ _ (by omega)
      have hfz := frozen_of_row wr w3.heap.size K _ 30 hbx
      have hcl2 : (wr.setCell ⟨w3.heap.size, K, none⟩ (.int .i64 (Vr : Int))).cell? ⟨w3.heap.size, K, none⟩ = some (.int .i64 (Vr : Int)) := by
        rw [cell_of_row _ _ _ _ _ _ (heap_setCell_same _ _ _ _ _ _ hbx), av_set]
        have := av_get (st.set K (Vr : Int)) K (by simp; omega)
        rw [getD_setI _ _ _ _ (by omega), if_pos rfl] at this
        exact this
      have HWR : Hid (∀ w5 g, Below (wr.setCell ⟨w3.heap.size, K, none⟩ (.int .i64 (Vr : Int))).heap.size (wr.setCell ⟨w3.heap.size, K, none⟩ (.int .i64 (Vr : Int))) w5 → Full w5 g 5 (bb (Vr : Int)) → Calls Tryd.prog 33 #[.pointer (some ⟨dp, 0, none⟩), .int .i64 (245 + (K : Int)), .slice (some ⟨g, 0, none⟩) 512 512] w5 fun e w' => e = .returned (.int .i64 0) ∧ JH w.heap.size w w' w3.heap.size (st.set K (Vr : Int)) j dp (3 + k + 1)) := fun w5 g h1 h2 => hH.write (by omega) K hK (Vr : Int) h1 h2
      clear hH hbx HL0 HL1 HLT
      go_wp2_with (first
        | (go_at_call_of 32 (Value.int IntKind.i64 Bz); refine (HR1.out _).mono ?_; rintro e w' ⟨rfl, hw⟩; subst w')
        | (go_at_call_of 32 (Value.int IntKind.i64 Vz); refine (HR2.out _).mono ?_; rintro e w' ⟨rfl, hw⟩; subst w')
        | (go_at_call 22; refine (block_any _ _).mono ?_; rintro e w5 ⟨g, rfl, hg5, hge5, hb5⟩)
        | (go_at_call 33; refine (HWR.out w5 g hb5 hg5).mono ?_; rintro e w6 ⟨rfl, hH6⟩))
      exact ⟨⟨k + 1, _, by omega, by go_num, hH6⟩, by simp [intOf]; omega⟩
    · obtain rfl : k = l0.length := by omega
      have HFL : Hid _ := hH.flush (by omega)
      have hst := hH.box.2
      have hok := csOk l1 st hst
      have hzs := info30 st hst
      have hz2c := info30 _ hok.stl
      have hone := av_one (csOf l1 st).st
      have hsz : (av z30).size = (av (csOf l1 st).st).size := by rw [av_size, av_size, hok.stl]; rfl
      have HCC : Hid (∀ wx, Fr w.heap.size [] w wx → Calls Tryd.prog 17 #[.slice a1 l1.length cap1, .agg (av st)] wx fun e w6 => ∃ v, e = .returned (.tuple #[v, .agg (av (csOf l1 st).st)]) ∧ ChgPost wx l1 st e w6) := fun wx h => (changes_any a1 cap1 l1 st wx (HL1.out wx h) m1 hst).mono (fun e w6 h => by obtain ⟨v, gs, rfl, _⟩ := id h; exact ⟨v, rfl, h⟩)
      have HCM : Hid (∀ wx w6 v, JS w.heap.size w wx w3.heap.size st j dp (3 + l0.length + 1) → ChgPost wx l1 st (.returned (.tuple #[v, .agg (av (csOf l1 st).st)])) w6 → Calls Tryd.prog 18 #[.pointer (some ⟨j, 0, none⟩), v] ((w6.alloc (.cells (av z30) 30)).setRow w6.heap.size (av (csOf l1 st).st)) fun e w' => e = .returned (.int .i64 0) ∧ JS w.heap.size w w' w6.heap.size (csOf l1 st).st j dp (3 + l0.length + 1 + 345)) := fun wx w6 v h h6 => h.commit2 (by omega) h6 (av z30)
      have HCR : Hid (∀ wx b st', JS w.heap.size w wx b st' j dp (3 + l0.length + 1 + 345) → Calls Tryd.prog 29 #[.pointer (some ⟨dp, 0, none⟩), .slice none 0 0] wx fun e w' => ∃ c, e = .returned (.pointer (some ⟨c, 0, none⟩)) ∧ Calls Tryd.prog 31 #[.pointer (some ⟨c, 0, none⟩), .slice none 0 0, .slice none 0 0] w' (JOpen w.heap.size w b st')) := fun wx b st' h => h.crash none [] 0 (RowI.nil _ _) (by simp)
      clear hH HL0 HL1 HLT hok hst
      generalize csOf l1 st = c at *
      go_wp2_with (first
        | (go_at_call 34; refine Calls.mono HFL.out ?_; rintro e w4 ⟨⟨v4, rfl⟩, hS4⟩; have x4 := hS4.box)
        | (have _h := x4; refine wpList_load_row rfl 30 _ rfl w3.heap.size rfl 30 (av st) (0, 0) _ x4 Tryd.underlying30 rfl hzs ?_; clear _h x4)
        | (go_at_call 24; refine hS4.is.mono ?_; rintro e w5 ⟨rfl, hS5⟩; clear hS4; have x5 := hS5.box)
        | (have _h := x5; refine wpList_load_row rfl 30 _ rfl w3.heap.size rfl 30 (av st) (0, 0) _ x5 Tryd.underlying30 rfl hzs ?_; clear _h x5)
        | (go_at_call 17; refine Calls.mono (HCC.out w5 hS5.fr) ?_; rintro e w6 ⟨v, rfl, h6⟩; have HCM2 : Hid (Calls Tryd.prog 18 #[.pointer (some ⟨j, 0, none⟩), v] ((w6.alloc (.cells (av z30) 30)).setRow w6.heap.size (av c.st)) fun e w' => e = .returned (.int .i64 0) ∧ JS w.heap.size w w' w6.heap.size c.st j dp (3 + l0.length + 1 + 345)) := HCM.out w5 w6 v hS5 h6; clear h6 hS5; have e6 := heap_alloc_new w6 (.cells (av z30) 30))
        | (have _h := e6; refine wpList_store_row rfl 30 _ _ rfl w6.heap.size (av c.st) rfl rfl 30 (av z30) e6 hz2c hsz hone ?_; clear _h e6)
        | (go_at_call 18; refine Calls.mono HCM2.out ?_; rintro e w9 ⟨rfl, hS9⟩)
        | (go_at_call 29; refine Calls.mono (HCR.out w9 w6.heap.size c.st hS9) ?_; rintro e w11 ⟨cr, rfl, hOP⟩; clear hS9)
        | (go_at_call 31; refine Calls.mono hOP ?_; rintro e w12 ⟨dp', j', rfl, hS12⟩; clear hOP; have x12 := hS12.box)
        | (have _h := x12; refine load_row_g rfl 30 _ rfl w6.heap.size rfl 30 (av c.st) (0, 0) _ x12 Tryd.underlying30 rfl hz2c ?_; clear _h x12)
        | (go_at_call 24; refine hS12.is.mono ?_; rintro e w13 ⟨rfl, hS13⟩; have hF13 := hS13.fr)
        | (go_at_call 15; refine (awake_any hF13).mono ?_; rintro e w14 ⟨rfl, hF14⟩))
      go_ret
      exact ⟨rfl, hF14.bel⟩
end Go.Proofs.YtmodjgailmpfmaaDoor
