/- Commit of what changes made; opened. -/
import Derived.Test.YtmodjgailmpfmaaDoorLd
namespace Go.Proofs.YtmodjgailmpfmaaDoor
set_option linter.unusedSimpArgs false
set_option linter.unusedVariables false
open Go.RowKit Go.MapKept Go.Proofs
theorem Rest.congr {d : Dv} {T : List (List Nat)} {s t : Nat → List Nat} (h : Rest d T s) (e : ∀ k, 245 ≤ k → k < d.n → s k = t k) : Rest d T t :=
  ⟨⟨h.ph.n246, h.ph.good, h.ph.tab, h.ph.tab0, fun k h1 h2 => ⟨(h.ph.view k h1 h2).1.trans (e k h1 h2), (h.ph.view k h1 h2).2⟩⟩, h.none⟩
theorem Opens.congr {n : Nat} {F s t : Nat → List Nat} (h : Opens n F s) (e : ∀ k, 245 ≤ k → k < n → s k = t k) : Opens n F t := by
  obtain ⟨T, h1, h2, h3⟩ := h
  exact ⟨T, h1, h2, fun k a b => (h3 k a b).trans (e k a b)⟩
theorem Safe.congr {d : Dv} {s t s' t' : Nat → List Nat} (h : Safe d s t) (e1 : ∀ k, 245 ≤ k → k < d.n → s k = s' k) (e2 : ∀ k, 245 ≤ k → k < d.n → t k = t' k) : Safe d s' t' := fun F hF => (h F hF).imp (fun q => q.congr e1) (fun q => q.congr e2)
/-- Changes, none or some, in blocks of E. -/
def Chg (E : List Nat) (w : World) (v : Value) (c : Cs) : Prop :=
  (c.hl = [] ∧ ∃ a cap, v = .slice a 0 cap) ∨ ∃ lk cap gs, v = .slice (some ⟨lk, 0, none⟩) c.hl.length cap ∧ Chs E w 275 lk c.hl gs (c.vs.map fun x => bb ((x : Nat) : Int))
theorem Chg.same {E : List Nat} {w w' : World} {v : Value} {c : Cs} (h : Chg E w v c) (e : Same E w w') : Chg E w' v c := by
  rcases h with q | ⟨lk, cap, gs, h1, h2⟩
  · exact .inl q
  · exact .inr ⟨lk, cap, gs, h1, h2.same e⟩
theorem chg_of {w w' : World} {cl : List (Int × Int)} {st : List Int} (hst : st.length = 30) {v x : Value} (h : ChgPost w cl st (.returned (.tuple #[v, x])) w') :
    x = .agg (av (csOf cl st).st) ∧ Below w.heap.size w w' ∧ (∃ a l c, v = .slice a l c) ∧ ∃ Ex, (∀ y ∈ Ex, w.heap.size ≤ y ∧ y < w'.heap.size) ∧ ∀ E, Chg (Ex ++ E) w' v (csOf cl st) := by
  obtain ⟨v0, gs, e, hown, hgl, hdat, hb⟩ := h
  simp only [Ending.returned.injEq, Value.tuple.injEq, Array.mk.injEq, List.cons.injEq, and_true] at e
  obtain ⟨rfl, rfl⟩ := e
  have hok := csOk cl st hst
  generalize csOf cl st = c at *
  refine ⟨rfl, hb, ?_, ?_⟩
  · rcases hown.2 with ⟨rfl, _⟩ | ⟨g, cap, cur, rfl, _⟩
    · exact ⟨_, _, _, rfl⟩
    · exact ⟨_, _, _, rfl⟩
  by_cases h0 : c.hl = []
  · refine ⟨[], by simp, fun E => .inl ⟨h0, ?_⟩⟩
    rcases hown.2 with ⟨rfl, _⟩ | ⟨g, cap, cur, rfl, _⟩
    · exact ⟨_, _, rfl⟩
    · exact ⟨some ⟨g, 0, none⟩, cap, by rw [h0]; rfl⟩
  · rcases hown.2 with ⟨rfl, h1⟩ | ⟨lk, cap, cur, rfl, hB, hg, hle, hm, hcs, ht⟩
    · exact absurd (List.eq_nil_of_length_eq_zero h1) h0
    · have hcell := fun jx u hju => hown.cells (g := lk) rfl jx u hju
      refine ⟨lk :: gs, fun y hy => ?_, fun E => .inr ⟨lk, cap, gs, rfl, ⟨⟨by simp [hgl], fun i hi => ?_⟩, hgl, fun i hi => ?_, by simp, h0, by have := hok.few; omega, hok.nd, hok.home⟩⟩⟩
      · rcases List.mem_cons.1 hy with rfl | hy
        · exact ⟨hB, (Array.getElem?_eq_some_iff.1 hg).1⟩
        · obtain ⟨i, hi, rfl⟩ := List.getElem_of_mem hy
          have := hdat i (by omega)
          have e : gs.getD i 0 = gs[i] := by simp [List.getD, hi]
          rw [e] at this
          exact ⟨this.2, this.1.lt⟩
      · obtain ⟨q1, q2⟩ := chv_get c.hl gs hgl i hi
        have a1 := hcell _ _ q1
        have a2 := hcell _ _ q2
        rw [Addr.add_lit, Nat.zero_add] at a1 a2
        have e : (gs.map fun g => Value.slice (some ⟨g, 0, none⟩) 512 512).getD i undef = .slice (some ⟨gs.getD i 0, 0, none⟩) 512 512 := by simp [List.getD, show i < gs.length by omega]
        exact ⟨a1, by rw [e]; exact a2, by rw [e]; exact ⟨_, _, _, rfl⟩⟩
      · have hi2 : i < c.vs.length := by rw [hok.len]; exact hi
        have e : (c.vs.map fun x => bb ((x : Nat) : Int)).getD i [] = bb ((c.vs.getD i 0 : Nat) : Int) := by simp [List.getD, hi2]
        rw [e]
        exact ⟨(hdat i hi).1, by simp [List.getD, show i < gs.length by omega], bb_len _, bb_lt _⟩
theorem crow_nil (w : World) (a : Option Addr) : CRow w a [] [] := ⟨rfl, fun i hi => by simp at hi⟩
/-- Commit of them. -/
def CommitG (B : Nat) (E : List Nat) (w1 : World) (j dp : Nat) (d : Dv) (s t : Nat → List Nat) : Ending → World → Prop :=
  Ans (fun w' => Fr B E w1 w' ∧ ∃ d' T', JP B E w' j dp d' T' false ∧ Rest d' T' t ∧ Next d d' 345) (fun w' => Fr B E w1 w' ∧ ∃ d' T', JP B E w' j dp d' T' true ∧ Safe d' s t ∧ Next d d' 345 ∧ d'.cut = true)
theorem commitG {B : Nat} {E : List Nat} {w1 w : World} {j dp : Nat} {d : Dv} {T : List (List Nat)} {st : List Int} {v : Value} {c : Cs} (hF : Fr B E w1 w) (hJ : JP B E w j dp d T false) (hR : Rest d T (absS st)) (hn : d.n = 275) (hC : Chg E w v c) (hok : CsOk c st) (ho : d.ops + 345 ≤ 1000000) :
    Calls Tryd.prog 18 #[.pointer (some ⟨j, 0, none⟩), v] w (CommitG B E w1 j dp d (absS st) (absS c.st)) := by
  rcases hC with ⟨h0, a, cap, rfl⟩ | ⟨lk, cap, gs, rfl, hch⟩
  · obtain ⟨FP, hJo, hFP⟩ := id hJ
    have := commit_no (cap := cap) (hasJ d.n) (jhas_all hJo) (crow_nil w a) (by simp) (.inr rfl)
    refine this.mono ?_
    rintro e w' ⟨rfl, hb⟩
    refine ⟨0, rfl, .inl ⟨rfl, hF.below hb, d, T, hJ.below hb, hR.congr (fun k h1 h2 => ?_), Next.refl _ _⟩⟩
    have := hok.new k h1 (by omega)
    rw [← this]
    simp [newS, h0]
  · rw [← hn] at hch
    refine (commit_ok hF hJ hR hch (by omega)).mono ?_
    intro e w' h
    rw [hn] at h
    exact h.mono (fun ⟨a, d', T', b, c', e⟩ => ⟨a, d', T', b, c'.congr (fun k h1 h2 => hok.new k h1 (by rw [e.n, hn] at h2; exact h2)), e⟩)
      (fun ⟨a, d', T', b, c', e, f⟩ => ⟨a, d', T', b, c'.congr (fun _ _ _ => rfl) (fun k h1 h2 => hok.new k h1 (by rw [e.n, hn] at h2; exact h2)), e, f⟩)
theorem JP.same {B : Nat} {E : List Nat} {w w' : World} {j dp : Nat} {d : Dv} {T : List (List Nat)} {off : Bool} {FP : List Nat} (h : Jour w j dp FP d T off) (hFP : ∀ x ∈ FP, B ≤ x ∧ x ∉ E) (e : ∀ x ∈ FP, w'.heap[x]? = w.heap[x]?) : JP B E w' j dp d T off := by
  obtain ⟨F, lb, rfl, hd, hj, h1, h2⟩ := h
  exact ⟨_, ⟨F, lb, rfl, hd.same (fun x hx => e x (by simp [hx])), hj.blk (e _ (by simp)) (e _ (by simp)), h1, h2⟩, hFP⟩
theorem Fr.withJ {B : Nat} {E FP : List Nat} {w1 w : World} {j dp : Nat} {d : Dv} {T : List (List Nat)} {off : Bool} (hF : Fr B E w1 w) (hd : Jour w j dp FP d T off) : Fr B (FP ++ E) w w :=
  Fr.start (fun x hx => by rcases List.mem_append.1 hx with q | q; exact hd.lt x q; exact hF.ltw x q) (Nat.le_trans hF.big hF.size) hF.pos hF.tab
theorem cutF {B : Nat} {E : List Nat} {w1 w : World} {dp : Nat} {d : Dv} (hF : Fr B E w1 w) (hD : DP B E w dp d) (k : Int) (hk : k ≤ 9223372036854775807) :
    Calls Tryd.prog 30 #[.pointer (some ⟨dp, 0, none⟩), .int .i64 k] w fun e w' => (∃ v, e = .returned v) ∧ Fr B E w1 w' ∧ DP B E w' dp (d.cutAt k) := by
  obtain ⟨F, hd, hFP⟩ := hD
  refine (cutD hd k hk).mono ?_
  rintro e w' ⟨hv, F', hd', hkk, hg⟩
  obtain ⟨g1, g2⟩ := DP.step hF hFP hd' hkk hg
  exact ⟨hv, g1, g2⟩
theorem cutJ {B : Nat} {E : List Nat} {w1 w : World} {j dp : Nat} {d : Dv} {T : List (List Nat)} {off : Bool} (hF : Fr B E w1 w) (hJ : JP B E w j dp d T off) (k : Int) (hk : k ≤ 9223372036854775807) :
    Calls Tryd.prog 30 #[.pointer (some ⟨dp, 0, none⟩), .int .i64 k] w fun e w' => (∃ v, e = .returned v) ∧ Fr B E w1 w' ∧ JP B E w' j dp (d.cutAt k) T off := by
  obtain ⟨FP, ⟨F, lb, rfl, hd, hj, h1, h2⟩, hFP⟩ := hJ
  refine (cutD hd k hk).mono ?_
  rintro e w' ⟨hv, F', hd', hkk, hg⟩
  obtain ⟨g1, g2⟩ := JP.step hF hj h1 h2 hFP hd' hkk hg
  exact ⟨hv, g1, g2⟩
/-- Open of a device at rest, cut or not: the device stays at rest. -/
theorem open_both {B : Nat} {E : List Nat} {w1 w : World} {dp : Nat} {d : Dv} {T : List (List Nat)} {s : Nat → List Nat} (hF : Fr B E w1 w) (hD : DP B E w dp d) (hR : Rest d T s) (ho : d.ops < 1000000) :
    Calls Tryd.prog 23 #[.pointer (some ⟨dp, 0, none⟩)] w fun e w' => (∃ p c, e = .returned (.tuple #[.pointer p, .int .i64 c])) ∧ Fr B E w1 w' ∧ ∃ d', DP B E w' dp d' ∧ Rest d' T s ∧ d'.n = d.n := by
  cases hon : d.on with
  | true =>
    refine (open_ok hF hD hR hon ho).mono ?_
    rintro e w' ⟨j, rfl, h1, h2, _⟩
    exact ⟨⟨_, _, rfl⟩, h1, _, h2.dev, ((Like.tick _).rest hR).flush, rfl⟩
  | false =>
    refine (open_off hF hD hR hon ho).mono ?_
    rintro e w' ⟨rfl, h1, h2⟩
    exact ⟨⟨_, _, rfl⟩, h1, _, h2, (Like.tick _).rest hR, rfl⟩
def OpenedPost (B : Nat) (E : List Nat) (w1 : World) (n : Nat) (s : Nat → List Nat) (e : Ending) (w' : World) : Prop :=
  ∃ dp j d T, e = .returned (.tuple #[.pointer (some ⟨dp, 0, none⟩), .pointer (some ⟨j, 0, none⟩), .bool true]) ∧ Fr B E w1 w' ∧ JP B E w' j dp d T false ∧ Rest d T s ∧ d.n = n ∧ d.cut = false ∧ d.ops ≤ 1
set_option maxRecDepth 100000 in
theorem opened_any {B : Nat} {E : List Nat} {w1 w : World} {dp : Nat} {d : Dv} {T : List (List Nat)} {s : Nat → List Nat} (hF : Fr B E w1 w) (hD : DP B E w dp d) (hR : Rest d T s) (hcut : d.cut = false) (ho : d.ops = 0) (ca pa : Option Addr) (ccap pcap : Nat) (cuts picks : List Int) (hc : ∀ w', Fr B E w1 w' → RowI w' ca cuts) (hp : ∀ w', Fr B E w1 w' → RowI w' pa picks) (hcl : cuts.length ≤ 9223372036854775807) (hpl : picks.length ≤ 9223372036854775807) :
    Calls Tryd.prog 31 #[.pointer (some ⟨dp, 0, none⟩), .slice ca cuts.length ccap, .slice pa picks.length pcap] w (OpenedPost B E w1 d.n s) := by
  obtain ⟨N, hN⟩ : ∃ N, d.n = N := ⟨_, rfl⟩
  rw [hN]
  have HC : Hid _ := hc
  have HP : Hid _ := hp
  have HOP : Hid (∀ wr p d T, Fr B E w1 wr → DP B E wr p d → Rest d T s → d.cut = false → d.ops = 0 → d.n = N → Calls Tryd.prog 23 #[.pointer (some ⟨p, 0, none⟩)] wr fun e w' => ∃ j, e = .returned (.tuple #[.pointer (some ⟨j, 0, none⟩), .int .i64 0]) ∧ Fr B E w1 w' ∧ ∃ d', JP B E w' j p d' T false ∧ Rest d' T s ∧ d'.n = N ∧ d'.cut = false ∧ d'.ops ≤ 1) := fun wr p d T h1 h2 h3 h4 h5 h6 => by
    refine (open_ok h1 h2 h3 (on_uncut h4) (by omega)).mono ?_
    rintro e w' ⟨j, rfl, g1, g2, _⟩
    exact ⟨j, rfl, g1, _, g2, ((Like.tick _).rest h3).flush, h6, h4, by show d.ops + 1 ≤ 1; omega⟩
  have hclI : (cuts.length : Int) ≤ 9223372036854775807 := by omega
  clear hc hp
  go_enter Tryd.func31, Tryd.ntmps31
  go_wp2
  go_loopw [0, 9] (fun p i wr => ∃ k dp d T, k ≤ cuts.length ∧ k ≤ 6 ∧ i = .int .i64 ((k : Nat) : Int) ∧ p = .pointer (some ⟨dp, 0, none⟩) ∧ Fr B E w1 wr ∧ DP B E wr dp d ∧ Rest d T s ∧ d.n = N ∧ d.cut = false ∧ d.ops = 0) (fun _ i _ => 6 - (intOf i).toNat)
  case atStart => exact ⟨0, dp, d, T, by omega, by omega, rfl, rfl, hF, hD, hR, hN, hcut, ho⟩
  case round =>
    clear hF hD hR hcut ho hN
    obtain ⟨k, p, d, T, hk, hk6, rfl, rfl, hF, hD, hR, hN, hcut, ho⟩ := hrel
    have HFIN : Hid _ := HOP.out wr p d T hF hD hR hcut ho hN
    by_cases hlt : k < cuts.length
    · have hltI : (k : Int) < (cuts.length : Int) := by omega
      by_cases hlt6 : k < 6
      · have hlt6I : (k : Int) < 6 := by omega
        obtain ⟨b, off, rfl, hcell, hz1, hz2⟩ := HC.out wr hF k hlt
        have HR1 : Hid _ := fun w' => round_any (cuts.getD k 0) 200 w' hz1 hz2 (by omega) (by omega)
        have hKr : ((cuts.getD k 0 % 200).toNat : Int) ≤ 9223372036854775807 := by have := Int.emod_lt_of_pos (cuts.getD k 0) (show (0 : Int) < 200 by omega); omega
        generalize cuts.getD k 0 = Z at *
        have HR2 : Hid (∀ w', Calls Tryd.prog 32 #[.int .i64 Z, .int .i64 200] w' fun e w'' => e = .returned (.int .i64 (((Z % 200).toNat : Nat) : Int)) ∧ w'' = w') := HR1.out
        clear HR1 hz1 hz2
        generalize (Z % 200).toNat = Kr at *
        have HCU : Hid _ := cutF hF hD (Kr : Int) hKr
        have HRC : Hid (Rest (d.cutAt (Kr : Int)) T s) := (Like.cutAt d _).rest hR
        have HN2 : Hid (d.n = N) := hN
        have hoc : (d.cutAt (Kr : Int)).ops < 1000000 := by show d.ops < _; omega
        clear hF hD hR hcut ho hN HFIN
        go_wp2_with (first
          | (go_at_call 32; refine (HR2.out _).mono ?_; rintro e w2 ⟨rfl, hw⟩; subst w2)
          | (go_at_call 30; refine Calls.mono HCU.out ?_; rintro e w3 ⟨⟨v, rfl⟩, hF3, hD3⟩)
          | (go_at_call 23; refine (open_both hF3 hD3 HRC.out hoc).mono ?_; rintro e w4 ⟨⟨pp, cc, rfl⟩, hF4, d4, hD4, hR4, hn4⟩; have hpr := HP.out w4 hF4)
          | (go_at_call 29; refine (crashF hF4 hD4 pa picks pcap hpr hpl).mono ?_; rintro e w5 ⟨c, rfl, hF5, hD5, _⟩; obtain ⟨T5, hR5⟩ := hR4.crash picks))
        exact ⟨⟨k + 1, c, _, T5, by omega, by omega, by go_num, rfl, hF5, hD5, hR5, by show d4.n = N; rw [hn4]; exact HN2.out, rfl, rfl⟩, by simp [intOf]; omega⟩
      · obtain rfl : k = 6 := by omega
        clear hF hD hR hcut ho hN
        go_wp2_with (go_at_call 23; refine Calls.mono HFIN.out ?_; rintro e w4 ⟨j, rfl, hF4, d', h1, h2, h3, h4, h5⟩)
        go_ret3
        exact ⟨p, j, d', T, rfl, hF4, h1, h2, h3, h4, h5⟩
    · obtain rfl : k = cuts.length := by omega
      clear hF hD hR hcut ho hN
      go_wp2_with (go_at_call 23; refine Calls.mono HFIN.out ?_; rintro e w4 ⟨j, rfl, hF4, d', h1, h2, h3, h4, h5⟩)
      go_ret3
      exact ⟨p, j, d', T, rfl, hF4, h1, h2, h3, h4, h5⟩
end Go.Proofs.YtmodjgailmpfmaaDoor
