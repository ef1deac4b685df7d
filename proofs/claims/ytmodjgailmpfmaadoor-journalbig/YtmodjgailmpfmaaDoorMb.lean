/- Lr Wb in one text (wip/tools/merge4.py). -/
import Derived.Test.YtmodjgailmpfmaaDoorLq
namespace Go.Proofs.YtmodjgailmpfmaaDoor
set_option linter.unusedSimpArgs false
set_option linter.unusedVariables false
open Go.RowKit Go.MapKept Go.Proofs
def hms (n : Nat) : List Nat := List.range' 245 n
theorem hms_len (n : Nat) : (hms n).length = n := by simp [hms]
theorem hms_succ (n : Nat) : hms (n + 1) = hms n ++ [245 + n] := by simp [hms, List.range'_concat]
theorem hms_get (n i : Nat) (h : i < n) : (hms n).getD i 0 = 245 + i := by simp [hms, List.getD, h]
def dts (f : Nat → Int) (n : Nat) : List (List Nat) := (List.range n).map fun i => bb (f i)
theorem dts_get (f : Nat → Int) (n i : Nat) (h : i < n) : (dts f n).getD i [] = bb (f i) := by simp [dts, List.getD, h]
structure CB (W wr : World) (v : Value) (n : Nat) (f : Nat → Int) (gs : List Nat) : Prop where
  own : wr.ownsRow W.heap.size 49 2 v n (chv (hms n) gs)
  gsl : gs.length = n
  dat : ∀ i, i < n → Full wr (gs.getD i 0) 5 (bb (f i)) ∧ W.heap.size ≤ gs.getD i 0
  bel : Below W.heap.size W wr
theorem CB.nil (W : World) (f : Nat → Int) : CB W W (.slice none 0 0) 0 f [] := ⟨World.ownsRow_nil _ _ _ _, rfl, fun i hi => by omega, Below.refl _ _⟩
theorem CB.step {W wr w3 w5 : World} {v v' : Value} {n g : Nat} {f : Nat → Int} {gs : List Nat} (h : CB W wr v n f gs) (hb3 : Below wr.heap.size wr w3) (hg : Full w3 g 5 (bb (f n))) (hge : wr.heap.size ≤ g)
    (hg5 : (w3.alloc (.cells #[.int .i64 (245 + (n : Int)), .slice (some ⟨g, 0, none⟩) 512 512] 49)).grownBy w5 v.ownBlock) (hown : w5.ownsRow W.heap.size 49 2 v' (n + 1) (chv (hms n) gs ++ [.int .i64 (245 + (n : Int)), .slice (some ⟨g, 0, none⟩) 512 512])) : CB W w5 v' (n + 1) f (gs ++ [g]) := by
  have b4 : Below w3.heap.size w3 (w3.alloc (.cells #[.int .i64 (245 + (n : Int)), .slice (some ⟨g, 0, none⟩) 512 512] 49)) := (Below.refl _ _).alloc (Nat.le_refl _) _
  have hb4 := hb3.trans (b4.mono hb3.size)
  have o4 := owns_below h.own hb4
  have hz := h.bel.size
  refine ⟨?_, by simp [h.gsl], fun i hi => ?_, ?_⟩
  · rw [hms_succ, chv_app _ _ _ _ (by rw [hms_len]; exact h.gsl), show ((245 + n : Nat) : Int) = 245 + (n : Int) by omega]
    exact hown
  · by_cases hi2 : i < n
    · obtain ⟨d1, d2⟩ := h.dat i hi2
      have e1 : (gs ++ [g]).getD i 0 = gs.getD i 0 := by simp [List.getD, List.getElem?_append, show i < gs.length by rw [h.gsl]; exact hi2]
      rw [e1]
      exact ⟨own49 o4 hg5 (d1.below hb4) (by decide), d2⟩
    · obtain rfl : i = n := by omega
      have e1 : (gs ++ [g]).getD i 0 = g := by simp [List.getD, ← h.gsl]
      rw [e1]
      exact ⟨own49 o4 hg5 (hg.below b4) (by decide), by omega⟩
  · have h4 := h.bel.trans (hb4.mono h.bel.size)
    exact h4.grown hg5 h4.size (fun x hx => (o4.lt x hx).1)
theorem CB.row {W wr : World} {v : Value} {n : Nat} {f : Nat → Int} {gs : List Nat} (h : CB W wr v n f gs) (hn : 0 < n) : ∃ lk cap, v = .slice (some ⟨lk, 0, none⟩) n cap ∧ W.heap.size ≤ lk ∧ lk < wr.heap.size ∧ ChRow wr lk (hms n) (gs.map fun g => Value.slice (some ⟨g, 0, none⟩) 512 512) := by
  rcases h.own.2 with ⟨rfl, h1⟩ | ⟨lk, cap, cur, rfl, hB, hg, hle, hm, hcs, ht⟩
  · omega
  · refine ⟨lk, cap, rfl, hB, (Array.getElem?_eq_some_iff.1 hg).1, by simp [h.gsl, hms_len], fun i hi => ?_⟩
    have hcell := fun jx u hju => h.own.cells (g := lk) rfl jx u hju
    obtain ⟨q1, q2⟩ := chv_get (hms n) gs (by rw [hms_len]; exact h.gsl) i hi
    have a1 := hcell _ _ q1
    have a2 := hcell _ _ q2
    rw [Addr.add_lit, Nat.zero_add] at a1 a2
    rw [hms_len] at hi
    have e : (gs.map fun g => Value.slice (some ⟨g, 0, none⟩) 512 512).getD i undef = .slice (some ⟨gs.getD i 0, 0, none⟩) 512 512 := by simp [List.getD, show i < gs.length by rw [h.gsl]; exact hi]
    exact ⟨a1, by rw [e]; exact a2, by rw [e]; exact ⟨_, _, _, rfl⟩⟩
theorem CB.chs {W wr : World} {v : Value} {n : Nat} {f : Nat → Int} {gs : List Nat} (h : CB W wr v n f gs) (hn : 0 < n) (h60 : n ≤ 60) (M : Nat) (hM : 245 + n ≤ M) : ∃ lk cap, v = .slice (some ⟨lk, 0, none⟩) n cap ∧ (∀ x ∈ lk :: gs, W.heap.size ≤ x ∧ x < wr.heap.size) ∧ Chs ((lk :: gs) ++ []) wr M lk (hms n) gs (dts f n) := by
  obtain ⟨lk, cap, rfl, h1, h2, hr⟩ := h.row hn
  refine ⟨lk, cap, rfl, fun x hx => ?_, hr, by rw [hms_len]; exact h.gsl, fun i hi => ?_, by simp, fun e => ?_, by rw [hms_len]; exact h60, by unfold hms; exact List.nodup_range', fun k hk => ?_⟩
  · rcases List.mem_cons.1 hx with rfl | hx
    · exact ⟨h1, h2⟩
    · obtain ⟨i, hi, rfl⟩ := List.getElem_of_mem hx
      have := h.dat i (by rw [← h.gsl]; exact hi)
      have e : gs.getD i 0 = gs[i] := by simp [List.getD, hi]
      rw [e] at this
      exact ⟨this.2, this.1.lt⟩
  · rw [hms_len] at hi
    rw [dts_get f n i hi]
    exact ⟨(h.dat i hi).1, by simp [List.getD, show i < gs.length by rw [h.gsl]; exact hi], bb_len _, bb_lt _⟩
  · have := hms_len n; rw [e] at this; simp at this; omega
  · simp [hms] at hk; omega
theorem newS_hms (s : Nat → List Nat) (f : Nat → Int) (n i : Nat) (h : i < n) : newS s (hms n) (dts f n) (245 + i) = bb (f i) := by
  have hm : 245 + i ∈ hms n := by simp [hms]; omega
  unfold newS
  rw [if_pos hm]
  have : (hms n).idxOf (245 + i) = i := by
    have e : (hms n)[i]'(by rw [hms_len]; exact h) = 245 + i := by simp [hms]
    rw [← e]
    exact List.Nodup.idxOf_getElem (by unfold hms; exact List.nodup_range') i _
  rw [this, dts_get f n i h]
/-- Commit of such a row. -/
theorem CB.commit {B : Nat} {w W wr : World} {v : Value} {n j dp M : Nat} {f : Nat → Int} {gs : List Nat} {d : Dv} (hF : Fr B [] w W) (hJ : JP B [] W j dp d [] false) (hR : Rest d [] zs0) (hM : d.n = M) (hM2 : M ≤ 1000) (hc : d.cut = false) (ho : d.ops ≤ 3) (h : CB W wr v n f gs) (h60 : n ≤ 60) (hn : 245 + n ≤ M) :
    Calls Tryd.prog 18 #[.pointer (some ⟨j, 0, none⟩), v] wr fun e w' => e = .returned (.int .i64 0) ∧ Fr B [] w w' ∧ ∃ d' T', JP B [] w' j dp d' T' false ∧ Rest d' T' (newS zs0 (hms n) (dts f n)) ∧ d'.n = M := by
  rcases Nat.eq_zero_or_pos n with rfl | hpos
  · have hv : ∃ a cap, v = .slice a 0 cap := by
      rcases h.own.2 with ⟨rfl, _⟩ | ⟨g, cap, cur, rfl, _⟩
      · exact ⟨_, _, rfl⟩
      · exact ⟨_, _, rfl⟩
    obtain ⟨a, cap, rfl⟩ := hv
    have hJ' := hJ.below h.bel
    obtain ⟨FP, hJo, _⟩ := id hJ'
    refine (commit_no (cap := cap) (hasJ d.n) (jhas_all hJo) (crow_nil wr a) (by simp) (.inr rfl)).mono ?_
    rintro e w' ⟨rfl, hb⟩
    exact ⟨rfl, (hF.below h.bel).below hb, d, [], hJ'.below hb, hR.congr (fun k _ _ => by simp [newS, hms]), hM⟩
  · obtain ⟨lk, cap, rfl, hEx, hch⟩ := h.chs hpos h60 d.n (by omega)
    have := commitF (E := []) (Ex := lk :: gs) (cap := cap) (hF.below h.bel) (fun x hx => (hEx x hx).2) ((hJ.ext (E' := (lk :: gs) ++ []) (fun x hx => .inr (hEx x (by simpa using hx)).1)).below h.bel) hR hch (by omega)
    rw [hms_len] at this
    refine this.mono ?_
    rintro e w' ⟨c, rfl, q⟩
    rcases q with ⟨rfl, a, b, d', T', h1, h2, h3⟩ | ⟨_, _, _, d', T', _, _, h3, h4⟩
    · exact ⟨rfl, a, d', T', h1.ext (fun x hx => by simp at hx), h2, by rw [h3.n, hM]⟩
    · rw [h3.cut, hc] at h4; cases h4
/-- Too many. -/
theorem CB.over {B : Nat} {w W wr : World} {v : Value} {n j dp : Nat} {f : Nat → Int} {gs : List Nat} {d : Dv} (hJ : JP B [] W j dp d [] false) (h : CB W wr v n f gs) (h60 : 60 < n) (hn : 245 + n ≤ d.n) (hn2 : n ≤ 1000) :
    Calls Tryd.prog 18 #[.pointer (some ⟨j, 0, none⟩), v] wr fun e w' => e = .returned (.int .i64 2) ∧ Below wr.heap.size wr w' := by
  obtain ⟨lk, cap, rfl, h1, h2, hr⟩ := h.row (by omega)
  obtain ⟨FP, hJo, _⟩ := hJ.below h.bel
  have hz : (nz (hms n)).length = n := by simp [nz, hms_len]
  have e1 : ∀ i, i < n → (nz (hms n)).getD i 0 = ((245 + i : Nat) : Int) := fun i hi => by simp [nz, List.getD, hms, hi]
  have e2 : ∀ i, i < n → (List.replicate n 512).getD i 0 = 512 := fun i hi => by simp [List.getD, List.getElem?_replicate, hi]
  have hrow : CRow wr (some ⟨lk, 0, none⟩) (nz (hms n)) (List.replicate n 512) := by
    refine ⟨by simp [hz], fun i hi => ?_⟩
    rw [hz] at hi
    obtain ⟨a, b, _⟩ := hr.2 i (by rw [hms_len]; exact hi)
    have e : (gs.map fun g => Value.slice (some ⟨g, 0, none⟩) 512 512).getD i undef = .slice (some ⟨gs.getD i 0, 0, none⟩) 512 512 := by simp [List.getD, show i < gs.length by rw [h.gsl]; exact hi]
    rw [e] at b
    rw [hms_get n i hi] at a
    exact ⟨lk, _, _, rfl, by rw [e1 i hi]; exact a, by rw [e2 i hi]; exact b, by rw [e2 i hi]; omega⟩
  have hcode : checkCode (hasJ d.n) (nz (hms n)) (List.replicate n 512) = 2 := by
    rw [code_good, if_pos (by rw [hz]; exact h60)]
    intro i hi
    rw [hz] at hi
    unfold badB
    rw [e1 i hi, e2 i hi]
    have h1 : ((245 + i : Nat) : Int) ∉ (nz (hms n)).take i := fun q => by
      obtain ⟨x, hx, e⟩ := List.getElem_of_mem q
      have hx' : x < i := by simp at hx; omega
      rw [List.getElem_take] at e
      have := e1 x (by omega)
      simp [List.getD, nz, hms_len, show x < n by omega] at this
      simp [nz, hms] at e
      omega
    have h2 : hasJ d.n ((245 + i : Nat) : Int) = true := by simp [hasJ]; omega
    rw [h2, decide_eq_false h1]; rfl
  have := commit_no (cap := cap) (hasJ d.n) (jhas_all hJo) hrow (by rw [hz]; omega) (.inl (by rw [hcode]; decide))
  rw [hcode, hz] at this
  exact this
end Go.Proofs.YtmodjgailmpfmaaDoor
namespace Go.Proofs.YtmodjgailmpfmaaDoor
set_option linter.unusedSimpArgs false
set_option linter.unusedVariables false
open Go.RowKit Go.MapKept Go.Proofs
def fb1 : Nat → Int := fun i => (i : Int) + 1
set_option maxRecDepth 100000 in
set_option maxHeartbeats 2000000 in
theorem journalBig_walk (a0 : Int) (w : World) (ht : Tab w) (w0 : (Lit.int .i64 a0).wf = true) :
    Calls Tryd.prog 5 #[.int .i64 a0] w fun e w' => e = .returned (.bool true) ∧ Below w.heap.size w w' := by
  have hF := Fr.law ht
  have HAW : Hid _ := awake_any hF
  by_cases hA : 0 ≤ a0 ∧ a0 ≤ 80
  case neg =>
    clear hF ht
    by_cases n1 : 0 ≤ a0
    · have n2 : ¬ a0 ≤ 80 := by omega
      clear hA
      go_enter Tryd.func5, Tryd.ntmps5
      go_wp2_with (go_at_call 15; refine Calls.mono HAW.out ?_; rintro e w2 ⟨rfl, hF2⟩)
      go_ret
      exact ⟨rfl, hF2.bel⟩
    · clear hA
      go_enter Tryd.func5, Tryd.ntmps5
      go_wp2_with (go_at_call 15; refine Calls.mono HAW.out ?_; rintro e w2 ⟨rfl, hF2⟩)
      go_ret
      exact ⟨rfl, hF2.bel⟩
  obtain ⟨n1, n2⟩ := hA
  obtain ⟨N, rfl⟩ := Int.eq_ofNat_of_zero_le n1
  obtain ⟨i0, hi, hz0, hz1, hz2⟩ := info_parts info49
  have HN : Hid (Calls Tryd.prog 25 #[.int .i64 325] w fun e w' => ∃ p, e = .returned (.tuple #[.pointer (some ⟨p, 0, none⟩), .int .i64 0]) ∧ Fr w.heap.size [] w w' ∧ DP w.heap.size [] w' p (blank 325)) := (newF hF 325 (by omega) (by omega)).mono (fun e w' h => by obtain ⟨p, e, h1, h2, _⟩ := h; exact ⟨p, e, h1, h2⟩)
  obtain ⟨r1, r2, r3, r4⟩ := formatted_blank 325 (by omega)
  have HFM : Hid (∀ w' p, Fr w.heap.size [] w w' → DP w.heap.size [] w' p (blank 325) → Calls Tryd.prog 27 #[.pointer (some ⟨p, 0, none⟩)] w' fun e w'' => e = .returned (.int .i64 0) ∧ Fr w.heap.size [] w w'' ∧ DP w.heap.size [] w'' p (formatted (blank 325))) := fun w' p h1 h2 => format_ok h1 h2 (show 246 ≤ 325 by omega) rfl (show 0 + 2 ≤ _ by omega)
  have HO : Hid (∀ w' p, Fr w.heap.size [] w w' → DP w.heap.size [] w' p (formatted (blank 325)) → Calls Tryd.prog 23 #[.pointer (some ⟨p, 0, none⟩)] w' fun e w'' => ∃ j, e = .returned (.tuple #[.pointer (some ⟨j, 0, none⟩), .int .i64 0]) ∧ Fr w.heap.size [] w w'' ∧ ∃ d, JP w.heap.size [] w'' j p d [] false ∧ Rest d [] zs0 ∧ d.n = 325 ∧ d.cut = false ∧ d.ops ≤ 3) := fun w' p h1 h2 => (open_ok h1 h2 r1 (on_uncut r3) (by rw [r4]; omega)).mono (fun e w'' h => by
      obtain ⟨j, e, q1, q2, _⟩ := h
      exact ⟨j, e, q1, _, q2, ((Like.tick _).rest r1).flush, rfl, rfl, Nat.le_refl _⟩)
  clear hF ht w0 r1 r2 r3 r4
  go_enter Tryd.func5, Tryd.ntmps5
  go_wp2_with (first
    | (go_at_call 25; refine Calls.mono HN.out ?_; rintro e w2 ⟨dp, rfl, hF2, hD2⟩)
    | (go_at_call 27; refine (HFM.out _ _ hF2 hD2).mono ?_; rintro e w3 ⟨rfl, hF3, hD3⟩; clear hF2 hD2)
    | (go_at_call 23; refine (HO.out _ _ hF3 hD3).mono ?_; rintro e w5 ⟨j, rfl, hF5, d, hJ5, hR5, hn5, hc5, ho5⟩; clear hF3 hD3))
  have HF5 : Hid (Fr w.heap.size [] w w5) := hF5
  have HCM : Hid (∀ wr v gs, CB w5 wr v N fb1 gs → N ≤ 60 → Calls Tryd.prog 18 #[.pointer (some ⟨j, 0, none⟩), v] wr fun e w' => e = .returned (.int .i64 0) ∧ Fr w.heap.size [] w w' ∧ ∃ d' T', JP w.heap.size [] w' j dp d' T' false ∧ Rest d' T' (newS zs0 (hms N) (dts fb1 N)) ∧ d'.n = 325) := fun wr v gs h h60 => h.commit hF5 hJ5 hR5 hn5 (by omega) hc5 ho5 h60 (by omega)
  have HCO : Hid (∀ wr v gs, CB w5 wr v N fb1 gs → 60 < N → Calls Tryd.prog 18 #[.pointer (some ⟨j, 0, none⟩), v] wr fun e w' => e = .returned (.int .i64 2) ∧ Fr w.heap.size [] w w') := fun wr v gs h h60 => (h.over (w := w) hJ5 h60 (by omega) (by omega)).mono (fun e w' q => ⟨q.1, (hF5.below h.bel).below q.2⟩)
  clear hF5 hJ5 hR5 hn5 hc5 ho5 HN HFM HO HAW
  go_loopw [7, 8] (fun v i wr => ∃ k gs, k ≤ N ∧ i = .int .i64 ((k : Nat) : Int) ∧ CB w5 wr v k fb1 gs) (fun _ i _ => N - (intOf i).toNat)
  case atStart => exact ⟨0, [], by omega, rfl, CB.nil _ _⟩
  case round =>
    obtain ⟨k, gs, hk, rfl, hC⟩ := hrel
    by_cases hlt : k < N
    · have hltI : (k : Int) < (N : Int) := by omega
      have x1 : k + 1 ≤ maxLen := by unfold maxLen; omega
      have x2 : (k + 1) * 32 ≤ 140737488355328 := by omega
      have HO4 : Hid (∀ w3 g, Below wr.heap.size wr w3 → (w3.alloc (.cells #[.int .i64 (245 + (k : Int)), .slice (some ⟨g, 0, none⟩) 512 512] 49)).ownsRow w5.heap.size 49 2 u7 k (chv (hms k) gs)) := fun w3 g hb => (owns_below hC.own hb).alloc _
      have HNW : Hid (∀ (w3 : World) (g : Nat) (j : Nat) (u : Value), [Value.int .i64 (245 + (k : Int)), .slice (some ⟨g, 0, none⟩) 512 512][j]? = some u → (w3.alloc (.cells #[.int .i64 (245 + (k : Int)), .slice (some ⟨g, 0, none⟩) 512 512] 49)).cell? ((⟨w3.heap.size, 0, none⟩ : Addr).add j) = some u) := by
        intro w3 g j u hj
        rw [Addr.add_lit, cell_of_row _ _ _ _ _ _ (heap_alloc_new w3 _)]
        simpa using hj
      have HH1 : Hid (∀ (g : Nat), ∀ u ∈ [Value.int .i64 (245 + (k : Int)), .slice (some ⟨g, 0, none⟩) 512 512], u.oneCell' = true) := by intro g u hu; simp at hu; rcases hu with rfl | rfl <;> rfl
      have HX3 : Hid (∀ w3 g, Below wr.heap.size wr w3 → w5.heap.size ≤ (w3.alloc (.cells #[.int .i64 (245 + (k : Int)), .slice (some ⟨g, 0, none⟩) 512 512] 49)).heap.size) := fun w3 g hb => by
        have q1 := hC.bel.size
        have q2 := hb.size
        show _ ≤ (w3.heap.push _).size
        simp; omega
      have HC : Hid (CB w5 wr u7 k fb1 gs) := hC
      clear hC
      go_wp2_with (first
        | (go_at_call 22; refine (block_any _ _).mono ?_; rintro e w3 ⟨g, rfl, hg3, hge3, hb3⟩)
        | (at_builtin; refine wpList_append_own _ rfl _ _ 34 rfl w5.heap.size 49 i0 (.agg #[.int .i64 0, .slice none 0 0]) 2 32 Tryd.underlying34 hi hz0 hz1 hz2 rfl (by decide) u7 k (chv (hms k) gs) rfl (HO4.out w3 g hb3) ⟨w3.heap.size, 0, none⟩ 1 1 [Value.int .i64 (245 + (k : Int)), .slice (some ⟨g, 0, none⟩) 512 512] rfl rfl (HNW.out w3 g) (HH1.out g) x1 x2 (HX3.out w3 g hb3) ?_; intro v' w7 hown7 hg7 hnil7))
      exact ⟨⟨k + 1, gs ++ [g], by omega, by go_num, CB.step HC.out hb3 hg3 hge3 hg7 hown7⟩, by simp [intOf]; omega⟩
    · obtain rfl : k = N := by omega
      clear hi hz0 hz1 hz2
      by_cases h60 : k ≤ 60
      · have h60I : (k : Int) ≤ 60 := by omega
        have HC2 : Hid _ := HCM.out wr u7 gs hC h60
        have HCR : Hid (∀ w' d T, Fr w.heap.size [] w w' → JP w.heap.size [] w' j dp d T false → Rest d T (newS zs0 (hms k) (dts fb1 k)) → d.n = 325 → Calls Tryd.prog 29 #[.pointer (some ⟨dp, 0, none⟩), .slice none 0 0] w' fun e w'' => ∃ c, e = .returned (.pointer (some ⟨c, 0, none⟩)) ∧ Calls Tryd.prog 23 #[.pointer (some ⟨c, 0, none⟩)] w'' fun e w3 => ∃ j', e = .returned (.tuple #[.pointer (some ⟨j', 0, none⟩), .int .i64 0]) ∧ Fr w.heap.size [] w w3 ∧ ∃ d' T', JP w.heap.size [] w3 j' c d' T' false ∧ Rest d' T' (newS zs0 (hms k) (dts fb1 k)) ∧ d'.n = 325) := fun w' d T h1 h2 h3 h4 => by
          refine (crashF h1 h2.dev none [] 0 (RowI.nil _ _) (by simp)).mono ?_
          rintro e w'' ⟨c, rfl, g1, g2, _⟩
          obtain ⟨T', hR'⟩ := h3.crash []
          refine ⟨c, rfl, (open_ok g1 g2 hR' (on_uncut rfl) (Nat.lt_of_lt_of_le (show 0 < 1 by omega) (by omega))).mono ?_⟩
          rintro e w3 ⟨j', rfl, q1, q2, _⟩
          exact ⟨j', rfl, q1, _, T', q2, ((Like.tick _).rest hR').flush, h4⟩
        clear hC HCM HCO
        go_wp2_with (first
          | (go_at_call 18; refine Calls.mono HC2.out ?_; rintro e w6 ⟨rfl, hF6, d6, T6, hJ6, hR6, hn6⟩)
          | (go_at_call 29; refine (HCR.out w6 d6 T6 hF6 hJ6 hR6 hn6).mono ?_; rintro e w7 ⟨c, rfl, hOP⟩; clear hF6 hJ6 hR6 hn6)
          | (go_at_call 23; refine hOP.mono ?_; rintro e w8 ⟨j8, rfl, hF8, d8, T8, hJ8, hR8, hn8⟩; clear hOP))
        have HRD : Hid (∀ (w' : World) (x : Nat), Below w8.heap.size w8 w' → x < k → Calls Tryd.prog 26 #[.pointer (some ⟨j8, 0, none⟩), .int .i64 (245 + (x : Int))] w' fun e w'' => ∃ g, e = .returned (.tuple #[.slice (some ⟨g, 0, none⟩) 512 512, .int .i64 0]) ∧ Full w'' g 81 (bb ((x : Int) + 1)) ∧ Below w'.heap.size w' w'') := fun w' x hb hx => by
          have := readJ (hJ8.below hb) hR8 (245 + x) (by omega) (by omega)
          rw [newS_hms zs0 fb1 k x hx, show ((245 + x : Nat) : Int) = 245 + (x : Int) by omega] at this
          exact this.mono (fun e w'' h => by obtain ⟨g, e, a, _, b⟩ := h; exact ⟨g, e, a, b⟩)
        have HF8 : Hid (Fr w.heap.size [] w w8) := hF8
        clear hF8 hJ8 hR8 hn8 HC2 HCR
        go_loopw [12] (fun i wr => ∃ x, x ≤ k ∧ i = .int .i64 ((x : Nat) : Int) ∧ Below w8.heap.size w8 wr) (fun i _ => k - (intOf i).toNat)
        case atStart => exact ⟨0, by omega, rfl, Below.refl _ _⟩
        case round =>
          obtain ⟨x, hx, rfl, hb⟩ := hrel
          by_cases hlt : x < k
          · have hltI : (x : Int) < (k : Int) := by omega
            have HR2 : Hid _ := HRD.out _ x hb hlt
            go_wp2_with (first
              | (go_at_call 26; refine Calls.mono HR2.out ?_; rintro e w9 ⟨g9, rfl, hg9, hb9⟩)
              | (go_at_call 22; refine (block_any _ _).mono ?_; rintro e w10 ⟨g10, rfl, hg10, _, hb10⟩; have hg9' := hg9.below hb10)
              | (go_at_call 21; refine (bytesF hg9' hg10 (bb_len _) (bb_len _) (bb_lt _) (bb_lt _)).mono ?_; rintro e w11 ⟨rfl, hb11⟩; rw [decide_eq_true rfl]))
            have hb911 := (hb9.trans (hb10.mono hb9.size)).trans (hb11.mono (Nat.le_trans hb9.size hb10.size))
            exact ⟨⟨x + 1, by omega, by go_num, hb.trans (hb911.mono hb.size)⟩, by simp [intOf]; omega⟩
          · obtain rfl : x = k := by omega
            have hF9 := Fr.below HF8.out hb
            go_wp2_with (go_at_call 15; refine (awake_any hF9).mono ?_; rintro e w10 ⟨rfl, hF10⟩)
            go_ret
            exact ⟨rfl, hF10.bel⟩
      · have h60I : (60 : Int) < (k : Int) := by omega
        have HC2 : Hid _ := HCO.out wr u7 gs hC (by omega)
        clear hC HCM HCO
        go_wp2_with (first
          | (go_at_call 18; refine Calls.mono HC2.out ?_; rintro e w6 ⟨rfl, hF6⟩)
          | (go_at_call 15; refine (awake_any hF6).mono ?_; rintro e w7 ⟨rfl, hF7⟩))
        go_ret
        exact ⟨rfl, hF7.bel⟩
end Go.Proofs.YtmodjgailmpfmaaDoor
