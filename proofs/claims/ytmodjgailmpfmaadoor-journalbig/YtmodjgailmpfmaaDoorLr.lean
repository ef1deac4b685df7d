/- Rows of changes that a law builds itself. -/
import Derived.Test.YtmodjgailmpfmaaDoorLq
namespace Go.Proofs.YtmodjgailmpfmaaDoor
set_option linter.unusedSimpArgs false
set_option linter.unusedVariables false
open Go.RowKit Go.MapKept Go.Proofs
def hms (n : Nat) : List Nat := List.range' 245 n
theorem hms_len (n : Nat) : (hms n).length = n := by simp [hms]
theorem hms_succ (n : Nat) : hms (n + 1) = hms n ++ [245 + n] := by simp [hms, List.range'_concat]
theorem hms_get (n i : Nat) (h : i < n) : (hms n).getD i 0 = 245 + i := by simp [hms, List.getD, h]
def dts (f : Nat → Int) (n : Nat) : List (List Nat) := (List.range n).map fun i => bb (f i)
theorem dts_get (f : Nat → Int) (n i : Nat) (h : i < n) : (dts f n).getD i [] = bb (f i) := by simp [dts, List.getD, h]
structure CB (W wr : World) (v : Value) (n : Nat) (f : Nat → Int) (gs : List Nat) : Prop where
  own : wr.ownsRow W.heap.size 49 2 v n (chv (hms n) gs)
  gsl : gs.length = n
  dat : ∀ i, i < n → Full wr (gs.getD i 0) 5 (bb (f i)) ∧ W.heap.size ≤ gs.getD i 0
  bel : Below W.heap.size W wr
theorem CB.nil (W : World) (f : Nat → Int) : CB W W (.slice none 0 0) 0 f [] := ⟨World.ownsRow_nil _ _ _ _, rfl, fun i hi => by omega, Below.refl _ _⟩
theorem CB.step {W wr w3 w5 : World} {v v' : Value} {n g : Nat} {f : Nat → Int} {gs : List Nat} (h : CB W wr v n f gs) (hb3 : Below wr.heap.size wr w3) (hg : Full w3 g 5 (bb (f n))) (hge : wr.heap.size ≤ g)
    (hg5 : (w3.alloc (.cells #[.int .i64 (245 + (n : Int)), .slice (some ⟨g, 0, none⟩) 512 512] 49)).grownBy w5 v.ownBlock) (hown : w5.ownsRow W.heap.size 49 2 v' (n + 1) (chv (hms n) gs ++ [.int .i64 (245 + (n : Int)), .slice (some ⟨g, 0, none⟩) 512 512])) : CB W w5 v' (n + 1) f (gs ++ [g]) := by
  have b4 : Below w3.heap.size w3 (w3.alloc (.cells #[.int .i64 (245 + (n : Int)), .slice (some ⟨g, 0, none⟩) 512 512] 49)) := (Below.refl _ _).alloc (Nat.le_refl _) _
  have hb4 := hb3.trans (b4.mono hb3.size)
  have o4 := owns_below h.own hb4
  have hz := h.bel.size
  refine ⟨?_, by simp [h.gsl], fun i hi => ?_, ?_⟩
  · rw [hms_succ, chv_app _ _ _ _ (by rw [hms_len]; exact h.gsl), show ((245 + n : Nat) : Int) = 245 + (n : Int) by omega]
    exact hown
  · by_cases hi2 : i < n
    · obtain ⟨d1, d2⟩ := h.dat i hi2
      have e1 : (gs ++ [g]).getD i 0 = gs.getD i 0 := by simp [List.getD, List.getElem?_append, show i < gs.length by rw [h.gsl]; exact hi2]
      rw [e1]
      exact ⟨own49 o4 hg5 (d1.below hb4) (by decide), d2⟩
    · obtain rfl : i = n := by omega
      have e1 : (gs ++ [g]).getD i 0 = g := by simp [List.getD, ← h.gsl]
      rw [e1]
      exact ⟨own49 o4 hg5 (hg.below b4) (by decide), by omega⟩
  · have h4 := h.bel.trans (hb4.mono h.bel.size)
    exact h4.grown hg5 h4.size (fun x hx => (o4.lt x hx).1)
theorem CB.row {W wr : World} {v : Value} {n : Nat} {f : Nat → Int} {gs : List Nat} (h : CB W wr v n f gs) (hn : 0 < n) : ∃ lk cap, v = .slice (some ⟨lk, 0, none⟩) n cap ∧ W.heap.size ≤ lk ∧ lk < wr.heap.size ∧ ChRow wr lk (hms n) (gs.map fun g => Value.slice (some ⟨g, 0, none⟩) 512 512) := by
  rcases h.own.2 with ⟨rfl, h1⟩ | ⟨lk, cap, cur, rfl, hB, hg, hle, hm, hcs, ht⟩
  · omega
  · refine ⟨lk, cap, rfl, hB, (Array.getElem?_eq_some_iff.1 hg).1, by simp [h.gsl, hms_len], fun i hi => ?_⟩
    have hcell := fun jx u hju => h.own.cells (g := lk) rfl jx u hju
    obtain ⟨q1, q2⟩ := chv_get (hms n) gs (by rw [hms_len]; exact h.gsl) i hi
    have a1 := hcell _ _ q1
    have a2 := hcell _ _ q2
    rw [Addr.add_lit, Nat.zero_add] at a1 a2
    rw [hms_len] at hi
    have e : (gs.map fun g => Value.slice (some ⟨g, 0, none⟩) 512 512).getD i undef = .slice (some ⟨gs.getD i 0, 0, none⟩) 512 512 := by simp [List.getD, show i < gs.length by rw [h.gsl]; exact hi]
    exact ⟨a1, by rw [e]; exact a2, by rw [e]; exact ⟨_, _, _, rfl⟩⟩
theorem CB.chs {W wr : World} {v : Value} {n : Nat} {f : Nat → Int} {gs : List Nat} (h : CB W wr v n f gs) (hn : 0 < n) (h60 : n ≤ 60) (M : Nat) (hM : 245 + n ≤ M) : ∃ lk cap, v = .slice (some ⟨lk, 0, none⟩) n cap ∧ (∀ x ∈ lk :: gs, W.heap.size ≤ x ∧ x < wr.heap.size) ∧ Chs ((lk :: gs) ++ []) wr M lk (hms n) gs (dts f n) := by
  obtain ⟨lk, cap, rfl, h1, h2, hr⟩ := h.row hn
  refine ⟨lk, cap, rfl, fun x hx => ?_, hr, by rw [hms_len]; exact h.gsl, fun i hi => ?_, by simp, fun e => ?_, by rw [hms_len]; exact h60, by unfold hms; exact List.nodup_range', fun k hk => ?_⟩
  · rcases List.mem_cons.1 hx with rfl | hx
    · exact ⟨h1, h2⟩
    · obtain ⟨i, hi, rfl⟩ := List.getElem_of_mem hx
      have := h.dat i (by rw [← h.gsl]; exact hi)
      have e : gs.getD i 0 = gs[i] := by simp [List.getD, hi]
      rw [e] at this
      exact ⟨this.2, this.1.lt⟩
  · rw [hms_len] at hi
    rw [dts_get f n i hi]
    exact ⟨(h.dat i hi).1, by simp [List.getD, show i < gs.length by rw [h.gsl]; exact hi], bb_len _, bb_lt _⟩
  · have := hms_len n; rw [e] at this; simp at this; omega
  · simp [hms] at hk; omega
theorem newS_hms (s : Nat → List Nat) (f : Nat → Int) (n i : Nat) (h : i < n) : newS s (hms n) (dts f n) (245 + i) = bb (f i) := by
  have hm : 245 + i ∈ hms n := by simp [hms]; omega
  unfold newS
  rw [if_pos hm]
  have : (hms n).idxOf (245 + i) = i := by
    have e : (hms n)[i]'(by rw [hms_len]; exact h) = 245 + i := by simp [hms]
    rw [← e]
    exact List.Nodup.idxOf_getElem (by unfold hms; exact List.nodup_range') i _
  rw [this, dts_get f n i h]
/-- Commit of such a row. -/
theorem CB.commit {B : Nat} {w W wr : World} {v : Value} {n j dp M : Nat} {f : Nat → Int} {gs : List Nat} {d : Dv} (hF : Fr B [] w W) (hJ : JP B [] W j dp d [] false) (hR : Rest d [] zs0) (hM : d.n = M) (hM2 : M ≤ 1000) (hc : d.cut = false) (ho : d.ops ≤ 3) (h : CB W wr v n f gs) (h60 : n ≤ 60) (hn : 245 + n ≤ M) :
    Calls Tryd.prog 18 #[.pointer (some ⟨j, 0, none⟩), v] wr fun e w' => e = .returned (.int .i64 0) ∧ Fr B [] w w' ∧ ∃ d' T', JP B [] w' j dp d' T' false ∧ Rest d' T' (newS zs0 (hms n) (dts f n)) ∧ d'.n = M := by
  rcases Nat.eq_zero_or_pos n with rfl | hpos
  · have hv : ∃ a cap, v = .slice a 0 cap := by
      rcases h.own.2 with ⟨rfl, _⟩ | ⟨g, cap, cur, rfl, _⟩
      · exact ⟨_, _, rfl⟩
      · exact ⟨_, _, rfl⟩
    obtain ⟨a, cap, rfl⟩ := hv
    have hJ' := hJ.below h.bel
    obtain ⟨FP, hJo, _⟩ := id hJ'
    refine (commit_no (cap := cap) (hasJ d.n) (jhas_all hJo) (crow_nil wr a) (by simp) (.inr rfl)).mono ?_
    rintro e w' ⟨rfl, hb⟩
    exact ⟨rfl, (hF.below h.bel).below hb, d, [], hJ'.below hb, hR.congr (fun k _ _ => by simp [newS, hms]), hM⟩
  · obtain ⟨lk, cap, rfl, hEx, hch⟩ := h.chs hpos h60 d.n (by omega)
    have := commitF (E := []) (Ex := lk :: gs) (cap := cap) (hF.below h.bel) (fun x hx => (hEx x hx).2) ((hJ.ext (E' := (lk :: gs) ++ []) (fun x hx => .inr (hEx x (by simpa using hx)).1)).below h.bel) hR hch (by omega)
    rw [hms_len] at this
    refine this.mono ?_
    rintro e w' ⟨c, rfl, q⟩
    rcases q with ⟨rfl, a, b, d', T', h1, h2, h3⟩ | ⟨_, _, _, d', T', _, _, h3, h4⟩
    · exact ⟨rfl, a, d', T', h1.ext (fun x hx => by simp at hx), h2, by rw [h3.n, hM]⟩
    · rw [h3.cut, hc] at h4; cases h4
/-- Too many. -/
theorem CB.over {B : Nat} {w W wr : World} {v : Value} {n j dp : Nat} {f : Nat → Int} {gs : List Nat} {d : Dv} (hJ : JP B [] W j dp d [] false) (h : CB W wr v n f gs) (h60 : 60 < n) (hn : 245 + n ≤ d.n) (hn2 : n ≤ 1000) :
    Calls Tryd.prog 18 #[.pointer (some ⟨j, 0, none⟩), v] wr fun e w' => e = .returned (.int .i64 2) ∧ Below wr.heap.size wr w' := by
  obtain ⟨lk, cap, rfl, h1, h2, hr⟩ := h.row (by omega)
  obtain ⟨FP, hJo, _⟩ := hJ.below h.bel
  have hz : (nz (hms n)).length = n := by simp [nz, hms_len]
  have e1 : ∀ i, i < n → (nz (hms n)).getD i 0 = ((245 + i : Nat) : Int) := fun i hi => by simp [nz, List.getD, hms, hi]
  have e2 : ∀ i, i < n → (List.replicate n 512).getD i 0 = 512 := fun i hi => by simp [List.getD, List.getElem?_replicate, hi]
  have hrow : CRow wr (some ⟨lk, 0, none⟩) (nz (hms n)) (List.replicate n 512) := by
    refine ⟨by simp [hz], fun i hi => ?_⟩
    rw [hz] at hi
    obtain ⟨a, b, _⟩ := hr.2 i (by rw [hms_len]; exact hi)
    have e : (gs.map fun g => Value.slice (some ⟨g, 0, none⟩) 512 512).getD i undef = .slice (some ⟨gs.getD i 0, 0, none⟩) 512 512 := by simp [List.getD, show i < gs.length by rw [h.gsl]; exact hi]
    rw [e] at b
    rw [hms_get n i hi] at a
    exact ⟨lk, _, _, rfl, by rw [e1 i hi]; exact a, by rw [e2 i hi]; exact b, by rw [e2 i hi]; omega⟩
  have hcode : checkCode (hasJ d.n) (nz (hms n)) (List.replicate n 512) = 2 := by
    rw [code_good, if_pos (by rw [hz]; exact h60)]
    intro i hi
    rw [hz] at hi
    unfold badB
    rw [e1 i hi, e2 i hi]
    have h1 : ((245 + i : Nat) : Int) ∉ (nz (hms n)).take i := fun q => by
      obtain ⟨x, hx, e⟩ := List.getElem_of_mem q
      have hx' : x < i := by simp at hx; omega
      rw [List.getElem_take] at e
      have := e1 x (by omega)
      simp [List.getD, nz, hms_len, show x < n by omega] at this
      simp [nz, hms] at e
      omega
    have h2 : hasJ d.n ((245 + i : Nat) : Int) = true := by simp [hasJ]; omega
    rw [h2, decide_eq_false h1]; rfl
  have := commit_no (cap := cap) (hasJ d.n) (jhas_all hJo) hrow (by rw [hz]; omega) (.inl (by rw [hcode]; decide))
  rw [hcode, hz] at this
  exact this
end Go.Proofs.YtmodjgailmpfmaaDoor
