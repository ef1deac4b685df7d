/- Lr Rq Rw in one text (wip/tools/merge4.py). -/
import Derived.Test.YtmodjgailmpfmaaDoorLq
import Derived.Deep.Cut
import Derived.Deep.CutRange
namespace Go.Proofs.YtmodjgailmpfmaaDoor
set_option linter.unusedSimpArgs false
set_option linter.unusedVariables false
open Go.RowKit Go.MapKept Go.Proofs
def hms (n : Nat) : List Nat := List.range' 245 n
theorem hms_len (n : Nat) : (hms n).length = n := by simp [hms]
theorem hms_succ (n : Nat) : hms (n + 1) = hms n ++ [245 + n] := by simp [hms, List.range'_concat]
theorem hms_get (n i : Nat) (h : i < n) : (hms n).getD i 0 = 245 + i := by simp [hms, List.getD, h]
def dts (f : Nat → Int) (n : Nat) : List (List Nat) := (List.range n).map fun i => bb (f i)
theorem dts_get (f : Nat → Int) (n i : Nat) (h : i < n) : (dts f n).getD i [] = bb (f i) := by simp [dts, List.getD, h]
structure CB (W wr : World) (v : Value) (n : Nat) (f : Nat → Int) (gs : List Nat) : Prop where
  own : wr.ownsRow W.heap.size 49 2 v n (chv (hms n) gs)
  gsl : gs.length = n
  dat : ∀ i, i < n → Full wr (gs.getD i 0) 5 (bb (f i)) ∧ W.heap.size ≤ gs.getD i 0
  bel : Below W.heap.size W wr
theorem CB.nil (W : World) (f : Nat → Int) : CB W W (.slice none 0 0) 0 f [] := ⟨World.ownsRow_nil _ _ _ _, rfl, fun i hi => by omega, Below.refl _ _⟩
theorem CB.step {W wr w3 w5 : World} {v v' : Value} {n g : Nat} {f : Nat → Int} {gs : List Nat} (h : CB W wr v n f gs) (hb3 : Below wr.heap.size wr w3) (hg : Full w3 g 5 (bb (f n))) (hge : wr.heap.size ≤ g)
    (hg5 : (w3.alloc (.cells #[.int .i64 (245 + (n : Int)), .slice (some ⟨g, 0, none⟩) 512 512] 49)).grownBy w5 v.ownBlock) (hown : w5.ownsRow W.heap.size 49 2 v' (n + 1) (chv (hms n) gs ++ [.int .i64 (245 + (n : Int)), .slice (some ⟨g, 0, none⟩) 512 512])) : CB W w5 v' (n + 1) f (gs ++ [g]) := by
  have b4 : Below w3.heap.size w3 (w3.alloc (.cells #[.int .i64 (245 + (n : Int)), .slice (some ⟨g, 0, none⟩) 512 512] 49)) := (Below.refl _ _).alloc (Nat.le_refl _) _
  have hb4 := hb3.trans (b4.mono hb3.size)
  have o4 := owns_below h.own hb4
  have hz := h.bel.size
  refine ⟨?_, by simp [h.gsl], fun i hi => ?_, ?_⟩
  · rw [hms_succ, chv_app _ _ _ _ (by rw [hms_len]; exact h.gsl), show ((245 + n : Nat) : Int) = 245 + (n : Int) by omega]
    exact hown
  · by_cases hi2 : i < n
    · obtain ⟨d1, d2⟩ := h.dat i hi2
      have e1 : (gs ++ [g]).getD i 0 = gs.getD i 0 := by simp [List.getD, List.getElem?_append, show i < gs.length by rw [h.gsl]; exact hi2]
      rw [e1]
      exact ⟨own49 o4 hg5 (d1.below hb4) (by decide), d2⟩
    · obtain rfl : i = n := by omega
      have e1 : (gs ++ [g]).getD i 0 = g := by simp [List.getD, ← h.gsl]
      rw [e1]
      exact ⟨own49 o4 hg5 (hg.below b4) (by decide), by omega⟩
  · have h4 := h.bel.trans (hb4.mono h.bel.size)
    exact h4.grown hg5 h4.size (fun x hx => (o4.lt x hx).1)
theorem CB.row {W wr : World} {v : Value} {n : Nat} {f : Nat → Int} {gs : List Nat} (h : CB W wr v n f gs) (hn : 0 < n) : ∃ lk cap, v = .slice (some ⟨lk, 0, none⟩) n cap ∧ W.heap.size ≤ lk ∧ lk < wr.heap.size ∧ ChRow wr lk (hms n) (gs.map fun g => Value.slice (some ⟨g, 0, none⟩) 512 512) := by
  rcases h.own.2 with ⟨rfl, h1⟩ | ⟨lk, cap, cur, rfl, hB, hg, hle, hm, hcs, ht⟩
  · omega
  · refine ⟨lk, cap, rfl, hB, (Array.getElem?_eq_some_iff.1 hg).1, by simp [h.gsl, hms_len], fun i hi => ?_⟩
    have hcell := fun jx u hju => h.own.cells (g := lk) rfl jx u hju
    obtain ⟨q1, q2⟩ := chv_get (hms n) gs (by rw [hms_len]; exact h.gsl) i hi
    have a1 := hcell _ _ q1
    have a2 := hcell _ _ q2
    rw [Addr.add_lit, Nat.zero_add] at a1 a2
    rw [hms_len] at hi
    have e : (gs.map fun g => Value.slice (some ⟨g, 0, none⟩) 512 512).getD i undef = .slice (some ⟨gs.getD i 0, 0, none⟩) 512 512 := by simp [List.getD, show i < gs.length by rw [h.gsl]; exact hi]
    exact ⟨a1, by rw [e]; exact a2, by rw [e]; exact ⟨_, _, _, rfl⟩⟩
theorem CB.chs {W wr : World} {v : Value} {n : Nat} {f : Nat → Int} {gs : List Nat} (h : CB W wr v n f gs) (hn : 0 < n) (h60 : n ≤ 60) (M : Nat) (hM : 245 + n ≤ M) : ∃ lk cap, v = .slice (some ⟨lk, 0, none⟩) n cap ∧ (∀ x ∈ lk :: gs, W.heap.size ≤ x ∧ x < wr.heap.size) ∧ Chs ((lk :: gs) ++ []) wr M lk (hms n) gs (dts f n) := by
  obtain ⟨lk, cap, rfl, h1, h2, hr⟩ := h.row hn
  refine ⟨lk, cap, rfl, fun x hx => ?_, hr, by rw [hms_len]; exact h.gsl, fun i hi => ?_, by simp, fun e => ?_, by rw [hms_len]; exact h60, by unfold hms; exact List.nodup_range', fun k hk => ?_⟩
  · rcases List.mem_cons.1 hx with rfl | hx
    · exact ⟨h1, h2⟩
    · obtain ⟨i, hi, rfl⟩ := List.getElem_of_mem hx
      have := h.dat i (by rw [← h.gsl]; exact hi)
      have e : gs.getD i 0 = gs[i] := by simp [List.getD, hi]
      rw [e] at this
      exact ⟨this.2, this.1.lt⟩
  · rw [hms_len] at hi
    rw [dts_get f n i hi]
    exact ⟨(h.dat i hi).1, by simp [List.getD, show i < gs.length by rw [h.gsl]; exact hi], bb_len _, bb_lt _⟩
  · have := hms_len n; rw [e] at this; simp at this; omega
  · simp [hms] at hk; omega
theorem newS_hms (s : Nat → List Nat) (f : Nat → Int) (n i : Nat) (h : i < n) : newS s (hms n) (dts f n) (245 + i) = bb (f i) := by
  have hm : 245 + i ∈ hms n := by simp [hms]; omega
  unfold newS
  rw [if_pos hm]
  have : (hms n).idxOf (245 + i) = i := by
    have e : (hms n)[i]'(by rw [hms_len]; exact h) = 245 + i := by simp [hms]
    rw [← e]
    exact List.Nodup.idxOf_getElem (by unfold hms; exact List.nodup_range') i _
  rw [this, dts_get f n i h]
/-- Commit of such a row. -/
theorem CB.commit {B : Nat} {w W wr : World} {v : Value} {n j dp M : Nat} {f : Nat → Int} {gs : List Nat} {d : Dv} (hF : Fr B [] w W) (hJ : JP B [] W j dp d [] false) (hR : Rest d [] zs0) (hM : d.n = M) (hM2 : M ≤ 1000) (hc : d.cut = false) (ho : d.ops ≤ 3) (h : CB W wr v n f gs) (h60 : n ≤ 60) (hn : 245 + n ≤ M) :
    Calls Tryd.prog 18 #[.pointer (some ⟨j, 0, none⟩), v] wr fun e w' => e = .returned (.int .i64 0) ∧ Fr B [] w w' ∧ ∃ d' T', JP B [] w' j dp d' T' false ∧ Rest d' T' (newS zs0 (hms n) (dts f n)) ∧ d'.n = M := by
  rcases Nat.eq_zero_or_pos n with rfl | hpos
  · have hv : ∃ a cap, v = .slice a 0 cap := by
      rcases h.own.2 with ⟨rfl, _⟩ | ⟨g, cap, cur, rfl, _⟩
      · exact ⟨_, _, rfl⟩
      · exact ⟨_, _, rfl⟩
    obtain ⟨a, cap, rfl⟩ := hv
    have hJ' := hJ.below h.bel
    obtain ⟨FP, hJo, _⟩ := id hJ'
    refine (commit_no (cap := cap) (hasJ d.n) (jhas_all hJo) (crow_nil wr a) (by simp) (.inr rfl)).mono ?_
    rintro e w' ⟨rfl, hb⟩
    exact ⟨rfl, (hF.below h.bel).below hb, d, [], hJ'.below hb, hR.congr (fun k _ _ => by simp [newS, hms]), hM⟩
  · obtain ⟨lk, cap, rfl, hEx, hch⟩ := h.chs hpos h60 d.n (by omega)
    have := commitF (E := []) (Ex := lk :: gs) (cap := cap) (hF.below h.bel) (fun x hx => (hEx x hx).2) ((hJ.ext (E' := (lk :: gs) ++ []) (fun x hx => .inr (hEx x (by simpa using hx)).1)).below h.bel) hR hch (by omega)
    rw [hms_len] at this
    refine this.mono ?_
    rintro e w' ⟨c, rfl, q⟩
    rcases q with ⟨rfl, a, b, d', T', h1, h2, h3⟩ | ⟨_, _, _, d', T', _, _, h3, h4⟩
    · exact ⟨rfl, a, d', T', h1.ext (fun x hx => by simp at hx), h2, by rw [h3.n, hM]⟩
    · rw [h3.cut, hc] at h4; cases h4
/-- Too many. -/
theorem CB.over {B : Nat} {w W wr : World} {v : Value} {n j dp : Nat} {f : Nat → Int} {gs : List Nat} {d : Dv} (hJ : JP B [] W j dp d [] false) (h : CB W wr v n f gs) (h60 : 60 < n) (hn : 245 + n ≤ d.n) (hn2 : n ≤ 1000) :
    Calls Tryd.prog 18 #[.pointer (some ⟨j, 0, none⟩), v] wr fun e w' => e = .returned (.int .i64 2) ∧ Below wr.heap.size wr w' := by
  obtain ⟨lk, cap, rfl, h1, h2, hr⟩ := h.row (by omega)
  obtain ⟨FP, hJo, _⟩ := hJ.below h.bel
  have hz : (nz (hms n)).length = n := by simp [nz, hms_len]
  have e1 : ∀ i, i < n → (nz (hms n)).getD i 0 = ((245 + i : Nat) : Int) := fun i hi => by simp [nz, List.getD, hms, hi]
  have e2 : ∀ i, i < n → (List.replicate n 512).getD i 0 = 512 := fun i hi => by simp [List.getD, List.getElem?_replicate, hi]
  have hrow : CRow wr (some ⟨lk, 0, none⟩) (nz (hms n)) (List.replicate n 512) := by
    refine ⟨by simp [hz], fun i hi => ?_⟩
    rw [hz] at hi
    obtain ⟨a, b, _⟩ := hr.2 i (by rw [hms_len]; exact hi)
    have e : (gs.map fun g => Value.slice (some ⟨g, 0, none⟩) 512 512).getD i undef = .slice (some ⟨gs.getD i 0, 0, none⟩) 512 512 := by simp [List.getD, show i < gs.length by rw [h.gsl]; exact hi]
    rw [e] at b
    rw [hms_get n i hi] at a
    exact ⟨lk, _, _, rfl, by rw [e1 i hi]; exact a, by rw [e2 i hi]; exact b, by rw [e2 i hi]; omega⟩
  have hcode : checkCode (hasJ d.n) (nz (hms n)) (List.replicate n 512) = 2 := by
    rw [code_good, if_pos (by rw [hz]; exact h60)]
    intro i hi
    rw [hz] at hi
    unfold badB
    rw [e1 i hi, e2 i hi]
    have h1 : ((245 + i : Nat) : Int) ∉ (nz (hms n)).take i := fun q => by
      obtain ⟨x, hx, e⟩ := List.getElem_of_mem q
      have hx' : x < i := by simp at hx; omega
      rw [List.getElem_take] at e
      have := e1 x (by omega)
      simp [List.getD, nz, hms_len, show x < n by omega] at this
      simp [nz, hms] at e
      omega
    have h2 : hasJ d.n ((245 + i : Nat) : Int) = true := by simp [hasJ]; omega
    rw [h2, decide_eq_false h1]; rfl
  have := commit_no (cap := cap) (hasJ d.n) (jhas_all hJo) hrow (by rw [hz]; omega) (.inl (by rw [hcode]; decide))
  rw [hcode, hz] at this
  exact this
end Go.Proofs.YtmodjgailmpfmaaDoor
namespace Go.Proofs.YtmodjgailmpfmaaDoor
set_option linter.unusedSimpArgs false
set_option linter.unusedVariables false
set_option maxRecDepth 100000
open Go.RowKit Go.MapKept Go.Proofs
def gcl (ks : List Int) (ds : List Value) : List Value := (List.zip ks ds).flatMap fun p => [Value.int .i64 p.1, p.2]
theorem gcl_app (ks : List Int) (ds : List Value) (k : Int) (d : Value) (h : ds.length = ks.length) : gcl (ks ++ [k]) (ds ++ [d]) = gcl ks ds ++ [.int .i64 k, d] := by
  unfold gcl
  rw [List.zip_append h.symm, List.flatMap_append]
  rfl
theorem gcl_get : ∀ (ks : List Int) (ds : List Value) (h : ds.length = ks.length) (i : Nat), i < ks.length → (gcl ks ds)[i * 2]? = some (.int .i64 (ks.getD i 0)) ∧ (gcl ks ds)[i * 2 + 1]? = some (ds.getD i undef)
  | [], _, _, i, hi => by simp at hi
  | a :: r, [], h, i, hi => by simp at h
  | a :: r, b :: s, h, 0, hi => by simp [gcl]
  | a :: r, b :: s, h, i + 1, hi => by
    have := gcl_get r s (by simpa using h) i (by simpa using hi)
    have e : gcl (a :: r) (b :: s) = [.int .i64 a, b] ++ gcl r s := by simp [gcl]
    rw [e, show (i + 1) * 2 = i * 2 + 2 by omega]
    simpa using this
/-- A row of changes: homes (or none), data (of any length). -/
structure GR (W wr : World) (v : Value) (ks : List Int) (ds : List Value) (ls : List Nat) : Prop where
  own : wr.ownsRow W.heap.size 49 2 v ks.length (gcl ks ds)
  dl : ds.length = ks.length
  ll : ls.length = ks.length
  sl : ∀ i, i < ks.length → ∃ a c, ds.getD i undef = .slice a (ls.getD i 0) c ∧ ls.getD i 0 ≤ 9223372036854775807
  bel : Below W.heap.size W wr
def s512 (g : Nat) : Value := .slice (some ⟨g, 0, none⟩) 512 512
theorem gcl_chv : ∀ (hl gs : List Nat), gcl (nz hl) (gs.map s512) = chv hl gs
  | [], _ => by simp [gcl, chv, nz]
  | a :: r, [] => by simp [gcl, chv, nz]
  | a :: r, b :: s => by
    have := gcl_chv r s
    have e1 : gcl (nz (a :: r)) ((b :: s).map s512) = [.int .i64 (a : Int), s512 b] ++ gcl (nz r) (s.map s512) := by simp [gcl, nz]
    have e2 : chv (a :: r) (b :: s) = [.int .i64 (a : Int), .slice (some ⟨b, 0, none⟩) 512 512] ++ chv r s := by simp [chv]
    rw [e1, e2, this]; rfl
theorem nz_len (hl : List Nat) : (nz hl).length = hl.length := by simp [nz]
theorem nz_get (hl : List Nat) (i : Nat) (h : i < hl.length) : (nz hl).getD i 0 = ((hl.getD i 0 : Nat) : Int) := by simp [nz, List.getD, h]
theorem CB.gr {W wr : World} {v : Value} {n : Nat} {f : Nat → Int} {gs : List Nat} (h : CB W wr v n f gs) : GR W wr v (nz (hms n)) (gs.map s512) (List.replicate n 512) := by
  have hl : (nz (hms n)).length = n := by rw [nz_len, hms_len]
  refine ⟨by rw [hl, gcl_chv]; exact h.own, by rw [hl]; simp [h.gsl], by rw [hl]; simp, fun i hi => ?_, h.bel⟩
  rw [hl] at hi
  have e : (gs.map s512).getD i undef = s512 (gs.getD i 0) := by simp [List.getD, show i < gs.length by rw [h.gsl]; exact hi]
  have e2 : (List.replicate n 512).getD i 0 = 512 := by simp [List.getD, List.getElem?_replicate, hi]
  rw [e, e2]
  exact ⟨_, _, rfl, by omega⟩
/-- What an append asks. -/
theorem GR.app {W wr w3 : World} {v : Value} {ks : List Int} {ds : List Value} {ls : List Nat} (h : GR W wr v ks ds ls) (hb : Below wr.heap.size wr w3) (b : Int) (d : Value) (hd : d.oneCell' = true) :
    (w3.alloc (.cells #[.int .i64 b, d] 49)).ownsRow W.heap.size 49 2 v ks.length (gcl ks ds) ∧ (∀ (j : Nat) (u : Value), [Value.int .i64 b, d][j]? = some u → (w3.alloc (.cells #[.int .i64 b, d] 49)).cell? ((⟨w3.heap.size, 0, none⟩ : Addr).add j) = some u) ∧ (∀ u ∈ [Value.int .i64 b, d], u.oneCell' = true) ∧ W.heap.size ≤ (w3.alloc (.cells #[.int .i64 b, d] 49)).heap.size := by
  refine ⟨(owns_below h.own hb).alloc _, fun j u hj => ?_, fun u hu => ?_, ?_⟩
  · rw [Addr.add_lit, cell_of_row _ _ _ _ _ _ (heap_alloc_new w3 _)]
    simpa using hj
  · simp at hu; rcases hu with rfl | rfl
    · rfl
    · exact hd
  · have q1 := h.bel.size
    have q2 := hb.size
    show _ ≤ (w3.heap.push _).size
    simp; omega
theorem GR.add {W wr w3 w5 : World} {v v' : Value} {ks : List Int} {ds : List Value} {ls : List Nat} {b : Int} {d : Value} {a : Option Addr} {len c : Nat} (h : GR W wr v ks ds ls) (hb : Below wr.heap.size wr w3) (hd : d = .slice a len c) (hlen : len ≤ 9223372036854775807)
    (hg5 : (w3.alloc (.cells #[.int .i64 b, d] 49)).grownBy w5 v.ownBlock) (hown : w5.ownsRow W.heap.size 49 2 v' (ks.length + 1) (gcl ks ds ++ [.int .i64 b, d])) : GR W w5 v' (ks ++ [b]) (ds ++ [d]) (ls ++ [len]) := by
  have b4 : Below w3.heap.size w3 (w3.alloc (.cells #[.int .i64 b, d] 49)) := (Below.refl _ _).alloc (Nat.le_refl _) _
  have hb4 := hb.trans (b4.mono hb.size)
  have o4 := owns_below h.own hb4
  have h4 := h.bel.trans (hb4.mono h.bel.size)
  refine ⟨by rw [gcl_app _ _ _ _ h.dl]; simpa using hown, by simp [h.dl], by simp [h.ll], fun i hi => ?_, h4.grown hg5 h4.size (fun x hx => (o4.lt x hx).1)⟩
  by_cases e : i < ks.length
  · obtain ⟨x, y, q1, q2⟩ := h.sl i e
    have e1 : (ds ++ [d]).getD i undef = ds.getD i undef := by simp [List.getD, List.getElem?_append, show i < ds.length by rw [h.dl]; exact e]
    have e2 : (ls ++ [len]).getD i 0 = ls.getD i 0 := by simp [List.getD, List.getElem?_append, show i < ls.length by rw [h.ll]; exact e]
    rw [e1, e2]; exact ⟨x, y, q1, q2⟩
  · obtain rfl : i = ks.length := by simp at hi; omega
    have e1 : (ds ++ [d]).getD ks.length undef = d := by simp [List.getD, ← h.dl]
    have e2 : (ls ++ [len]).getD ks.length 0 = len := by simp [List.getD, ← h.ll]
    rw [e1, e2]; exact ⟨a, c, hd, hlen⟩
theorem GR.row {W wr : World} {v : Value} {ks : List Int} {ds : List Value} {ls : List Nat} (h : GR W wr v ks ds ls) : ∃ a cap, v = .slice a ks.length cap ∧ CRow wr a ks ls := by
  rcases h.own.2 with ⟨rfl, h1⟩ | ⟨lk, cap, cur, rfl, hB, hg, hle, hm, hcs, ht⟩
  · have e : ks.length = 0 := by simpa using h1
    exact ⟨none, 0, by rw [e], h.ll, fun i hi => by omega⟩
  · refine ⟨some ⟨lk, 0, none⟩, cap, rfl, h.ll, fun i hi => ?_⟩
    obtain ⟨q1, q2⟩ := gcl_get ks ds h.dl i hi
    have a1 := h.own.cells (g := lk) rfl _ _ q1
    have a2 := h.own.cells (g := lk) rfl _ _ q2
    rw [Addr.add_lit, Nat.zero_add] at a1 a2
    obtain ⟨x, y, e, hx⟩ := h.sl i hi
    rw [e] at a2
    exact ⟨lk, x, y, rfl, a1, a2, hx⟩
/-- The first of a row. -/
theorem GR.head {W wr : World} {v : Value} {ks : List Int} {ds : List Value} {ls : List Nat} (h : GR W wr v ks ds ls) (h0 : 0 < ks.length) : ∃ lk cap a c, v = .slice (some ⟨lk, 0, none⟩) ks.length cap ∧ wr.cell? ⟨lk, 0, none⟩ = some (.int .i64 (ks.getD 0 0)) ∧ wr.cell? ⟨lk, 1, none⟩ = some (.slice a (ls.getD 0 0) c) ∧ ls.getD 0 0 ≤ 9223372036854775807 := by
  obtain ⟨a, cap, e, hr⟩ := h.row
  obtain ⟨lk, x, y, rfl, q1, q2, q3⟩ := hr.2 0 h0
  exact ⟨lk, cap, x, y, e, by simpa using q1, by simpa using q2, q3⟩
def RfPost (B : Nat) (w : World) (j dp : Nat) (code : Int) (e : Ending) (w' : World) : Prop :=
  e = .returned (.int .i64 code) ∧ Fr B [] w w' ∧ ∃ d' T', JP B [] w' j dp d' T' false ∧ d'.n = 275 ∧ (code = 1 → Rest d' T' zs0)
theorem GR.refuse {B : Nat} {w W wr : World} {v : Value} {ks : List Int} {ds : List Value} {ls : List Nat} {j dp : Nat} {d : Dv} (hF : Fr B [] w W) (hJ : JP B [] W j dp d [] false) (hR : Rest d [] zs0) (hn : d.n = 275) (h : GR W wr v ks ds ls) (hl : ks.length ≤ 1000) (hc : checkCode (hasJ 275) ks ls = 1) :
    Calls Tryd.prog 18 #[.pointer (some ⟨j, 0, none⟩), v] wr (RfPost B w j dp 1) := by
  obtain ⟨a, cap, rfl, hr⟩ := h.row
  have hJ' := hJ.below h.bel
  obtain ⟨FP, hJo, _⟩ := id hJ'
  have hj := jhas_all hJo
  rw [hn] at hj
  refine (commit_no (cap := cap) (hasJ 275) hj hr (by omega) (.inl (by rw [hc]; decide))).mono ?_
  rintro e w' ⟨rfl, hb⟩
  exact ⟨by rw [hc], (hF.below h.bel).below hb, d, [], hJ'.below hb, hn, fun _ => hR⟩
theorem CB.okR {B : Nat} {w W wr : World} {v : Value} {n : Nat} {f : Nat → Int} {gs : List Nat} {j dp : Nat} {d : Dv} (hF : Fr B [] w W) (hJ : JP B [] W j dp d [] false) (hR : Rest d [] zs0) (hn : d.n = 275) (hcut : d.cut = false) (ho : d.ops ≤ 3) (h : CB W wr v n f gs) (h30 : n ≤ 30) :
    Calls Tryd.prog 18 #[.pointer (some ⟨j, 0, none⟩), v] wr (RfPost B w j dp 0) := by
  refine (h.commit hF hJ hR hn (by omega) hcut ho (by omega) (by omega)).mono ?_
  rintro e w' ⟨rfl, a, d', T', b, _, n⟩
  exact ⟨rfl, a, d', T', b, n, fun q => by cases q⟩
/-- One more, that may be. -/
theorem CB.okR2 {B : Nat} {w W wr w3 w5 : World} {v v' : Value} {n k g : Nat} {f : Nat → Int} {gs : List Nat} {j dp : Nat} {d : Dv} (hF : Fr B [] w W) (hJ : JP B [] W j dp d [] false) (hR : Rest d [] zs0) (hn : d.n = 275) (hcut : d.cut = false) (ho : d.ops ≤ 3) (h : CB W wr v n f gs) (hk : 245 + n ≤ k) (hk2 : k < 275)
    (hb : Below wr.heap.size wr w3) (hg : Full w3 g 5 zeros) (hge : wr.heap.size ≤ g) (hg5 : (w3.alloc (.cells #[.int .i64 (k : Int), s512 g] 49)).grownBy w5 v.ownBlock) (hown : w5.ownsRow W.heap.size 49 2 v' (n + 1) (chv (hms n) gs ++ [.int .i64 (k : Int), s512 g])) :
    Calls Tryd.prog 18 #[.pointer (some ⟨j, 0, none⟩), v'] w5 (RfPost B w j dp 0) := by
  have b4 : Below w3.heap.size w3 (w3.alloc (.cells #[.int .i64 (k : Int), s512 g] 49)) := (Below.refl _ _).alloc (Nat.le_refl _) _
  have hb4 := hb.trans (b4.mono hb.size)
  have o4 := owns_below h.own hb4
  have hz := h.bel.size
  have h4 := h.bel.trans (hb4.mono h.bel.size)
  have hb5 : Below W.heap.size W w5 := h4.grown hg5 h4.size (fun x hx => (o4.lt x hx).1)
  have hl : (hms n ++ [k]).length = n + 1 := by simp [hms_len]
  have hown' : w5.ownsRow W.heap.size 49 2 v' (n + 1) (chv (hms n ++ [k]) (gs ++ [g])) := by
    rw [chv_app _ _ _ _ (by rw [hms_len]; exact h.gsl)]; exact hown
  have hfull : ∀ i, i < n + 1 → Full w5 ((gs ++ [g]).getD i 0) 5 ((dts f n ++ [zeros]).getD i []) ∧ W.heap.size ≤ (gs ++ [g]).getD i 0 ∧ ((dts f n ++ [zeros]).getD i []).length = 512 ∧ ∀ x, ((dts f n ++ [zeros]).getD i []).getD x 0 < 256 := fun i hi => by
    have hdl : (dts f n).length = n := by simp [dts]
    by_cases e : i < n
    · obtain ⟨d1, d2⟩ := h.dat i e
      have e1 : (gs ++ [g]).getD i 0 = gs.getD i 0 := by simp [List.getD, List.getElem?_append, show i < gs.length by rw [h.gsl]; exact e]
      have e2 : (dts f n ++ [zeros]).getD i [] = (dts f n).getD i [] := by simp [List.getD, List.getElem?_append, show i < (dts f n).length by omega]
      rw [e1, e2, dts_get f n i e]
      exact ⟨own49 o4 hg5 (d1.below hb4) (by decide), d2, bb_len _, bb_lt _⟩
    · obtain rfl : i = n := by omega
      have e1 : (gs ++ [g]).getD i 0 = g := by simp [List.getD, ← h.gsl]
      have e2 : (dts f i ++ [zeros]).getD i [] = zeros := by
        have : (dts f i ++ [zeros])[i]? = some zeros := by rw [List.getElem?_append_right (by omega), hdl]; simp
        simp only [List.getD, this, Option.getD_some]
      rw [e1, e2]
      refine ⟨own49 o4 hg5 (hg.below b4) (by decide), by omega, zeros_len, fun x => ?_⟩
      have : zeros.getD x 0 = 0 := by
        unfold zeros
        simp only [List.getD, List.getElem?_replicate]
        split <;> rfl
      rw [this]; omega
  rcases hown'.2 with ⟨rfl, h1⟩ | ⟨lk, cap, cur, rfl, hB, hgg, hle, hm, hcs, ht⟩
  · omega
  have hch : Chs ((lk :: (gs ++ [g])) ++ []) w5 d.n lk (hms n ++ [k]) (gs ++ [g]) (dts f n ++ [zeros]) := by
    refine ⟨⟨by simp [h.gsl, hms_len], fun i hi => ?_⟩, by simp [h.gsl, hms_len], fun i hi => ?_, by simp, by simp, by rw [hl]; omega, ?_, fun x hx => ?_⟩
    · obtain ⟨q1, q2⟩ := chv_get (hms n ++ [k]) (gs ++ [g]) (by simp [h.gsl, hms_len]) i hi
      have a1 := hown'.cells (g := lk) rfl _ _ q1
      have a2 := hown'.cells (g := lk) rfl _ _ q2
      rw [Addr.add_lit, Nat.zero_add] at a1 a2
      rw [hl] at hi
      have e : ((gs ++ [g]).map fun g => Value.slice (some ⟨g, 0, none⟩) 512 512).getD i undef = .slice (some ⟨(gs ++ [g]).getD i 0, 0, none⟩) 512 512 := by
        have hi2 : i < (gs ++ [g]).length := by simp [h.gsl]; omega
        simp only [List.getD, List.getElem?_map, List.getElem?_eq_getElem hi2, Option.map_some, Option.getD_some]
      exact ⟨a1, by rw [e]; exact a2, by rw [e]; exact ⟨_, _, _, rfl⟩⟩
    · rw [hl] at hi
      obtain ⟨f1, f2, f3, f4⟩ := hfull i hi
      refine ⟨f1, ?_, f3, f4⟩
      have hi2 : i < (gs ++ [g]).length := by simp [h.gsl]; omega
      have : (gs ++ [g]).getD i 0 ∈ gs ++ [g] := by
        simp only [List.getD, List.getElem?_eq_getElem hi2, Option.getD_some]
        exact List.getElem_mem hi2
      simp at this ⊢
      exact .inr this
    · rw [List.nodup_append]
      refine ⟨by unfold hms; exact List.nodup_range', by simp, fun a ha b hb e => ?_⟩
      simp [hms] at ha hb
      omega
    · simp [hms] at hx
      rw [hn]
      omega
  have hEx : ∀ x ∈ lk :: (gs ++ [g]), W.heap.size ≤ x ∧ x < w5.heap.size := fun x hx => by
    rcases List.mem_cons.1 hx with rfl | hx
    · exact ⟨hB, (Array.getElem?_eq_some_iff.1 hgg).1⟩
    · obtain ⟨i, hi, rfl⟩ := List.getElem_of_mem hx
      have := hfull i (by simp [h.gsl] at hi; omega)
      have e : (gs ++ [g]).getD i 0 = (gs ++ [g])[i] := by simp only [List.getD, List.getElem?_eq_getElem hi, Option.getD_some]
      rw [e] at this
      exact ⟨this.2.1, this.1.lt⟩
  have hcm := commitF (E := []) (Ex := lk :: (gs ++ [g])) (cap := cap) (hF.below hb5) (fun x hx => (hEx x hx).2) ((hJ.ext (E' := (lk :: (gs ++ [g])) ++ []) (fun x hx => .inr (hEx x (by simpa using hx)).1)).below hb5) hR hch (by omega)
  rw [hl] at hcm
  refine hcm.mono ?_
  rintro e w' ⟨cd, rfl, q⟩
  rcases q with ⟨rfl, a, b, d', T', h1, h2, h3⟩ | ⟨_, _, _, d', T', _, _, h3, h4⟩
  · exact ⟨rfl, a, d', T', h1.ext (fun x hx => by simp at hx), by rw [h3.n, hn], fun q => by cases q⟩
  · rw [h3.cut, hcut] at h4; cases h4
/-- Which rows are refused. -/
theorem code_over (n : Nat) (h : 30 < n) (ks : List Int) (ls : List Nat) : checkCode (hasJ 275) (nz (hms n) ++ ks) (List.replicate n 512 ++ ls) = 1 := by
  have hl : (nz (hms n)).length = n := by rw [nz_len, hms_len]
  refine code_bad (i := 30) (by simp [hl]; omega) ?_
  have e : (nz (hms n) ++ ks).getD 30 0 = 275 := by
    have := nz_get (hms n) 30 (by rw [hms_len]; exact h)
    rw [hms_get n 30 h] at this
    simp only [List.getD] at this ⊢
    rw [List.getElem?_append_left (by omega)]
    exact this
  unfold badB
  rw [e]
  simp [hasJ]
theorem code_last (ks : List Int) (ls : List Nat) (b : Int) (len : Nat) (hll : ls.length = ks.length) (h : b ∈ ks ∨ hasJ 275 b = false ∨ len ≠ 512) : checkCode (hasJ 275) (ks ++ [b]) (ls ++ [len]) = 1 := by
  refine code_bad (i := ks.length) (by simp) ?_
  have e1 : (ks ++ [b]).getD ks.length 0 = b := by simp [List.getD]
  have e2 : (ls ++ [len]).getD ks.length 0 = len := by simp [List.getD, ← hll]
  have e3 : (ks ++ [b]).take ks.length = ks := by simp
  unfold badB
  rw [e1, e2, e3]
  rcases h with h | h | h
  · simp [h]
  · simp [h]
  · simp [h]
theorem mem_hms (n : Nat) (b : Int) (h1 : 245 ≤ b) (h2 : b < 245 + n) : b ∈ nz (hms n) := by
  refine List.mem_map.2 ⟨b.toNat, ?_, by omega⟩
  simp [hms]; omega
/-- Behind the append of the last but one: what is there, and what it is to come to. -/
def R3 (B : Nat) (w W : World) (j dp N : Nat) (l want : Value) (wc : World) : Prop :=
  ∃ ks ds ls code, want = .int .i64 code ∧ GR W wc l ks ds ls ∧ (0 < N → (245 : Int) ∈ ks ∧ ks.getD 0 0 = 245) ∧ ks.length ≤ 72 ∧ ((code = 1 ∧ checkCode (hasJ 275) ks ls = 1) ∨ (code = 0 ∧ Calls Tryd.prog 18 #[.pointer (some ⟨j, 0, none⟩), l] wc (RfPost B w j dp 0)))
def R4 (B : Nat) (w : World) (j dp : Nat) (l want : Value) (wc : World) : Prop :=
  ∃ code, want = .int .i64 code ∧ (code = 0 ∨ code = 1) ∧ Hid (Calls Tryd.prog 18 #[.pointer (some ⟨j, 0, none⟩), l] wc (RfPost B w j dp code))
theorem R3.plain {B : Nat} {w W : World} {j dp N : Nat} {l want : Value} {wc : World} {d : Dv} (h : R3 B w W j dp N l want wc) (hF : Fr B [] w W) (hJ : JP B [] W j dp d [] false) (hR : Rest d [] zs0) (hn : d.n = 275) : R4 B w j dp l want wc := by
  obtain ⟨ks, ds, ls, code, rfl, hg, _, hlen, hc⟩ := h
  rcases hc with ⟨rfl, hc⟩ | ⟨rfl, hc⟩
  · exact ⟨1, rfl, .inr rfl, hg.refuse hF hJ hR hn (by omega) hc⟩
  · exact ⟨0, rfl, .inl rfl, hc⟩
end Go.Proofs.YtmodjgailmpfmaaDoor
namespace Go.Proofs.YtmodjgailmpfmaaDoor
set_option linter.unusedSimpArgs false
set_option linter.unusedVariables false
set_option maxRecDepth 100000
open Go.RowKit Go.MapKept Go.Proofs
def f1 : Nat → Int := fun _ => 1
theorem made_zeros {w : World} {g : Nat} : True := trivial
set_option maxHeartbeats 4000000 in
theorem journalRefuses_walk (a0 : Int) (a1 : Int) (a2 : Int) (a3 : Bool) (a4 : Int) (w : World) (ht : Tab w) (w0 : (Lit.int .i64 a0).wf = true) (w1 : (Lit.int .i64 a1).wf = true) (w2 : (Lit.int .i64 a2).wf = true) (w4 : (Lit.int .i64 a4).wf = true) :
    Calls Tryd.prog 4 #[.int .i64 a0, .int .i64 a1, .int .i64 a2, .bool a3, .int .i64 a4] w fun e w' => e = .returned (.bool true) ∧ Below w.heap.size w w' := by
  have hF := Fr.law ht
  have HF : Hid _ := fresh_any hF
  by_cases c0 : a0 < 0
  · skip
    clear HF ht
    go_enter Tryd.func4, Tryd.ntmps4
    go_wp2_with (go_at_call 15; refine (awake_any hF).mono ?_; rintro e w4 ⟨rfl, hF4⟩)
    go_ret
    exact ⟨rfl, hF4.bel⟩
  by_cases c1 : 70 < a0
  · skip
    clear HF ht
    go_enter Tryd.func4, Tryd.ntmps4
    go_wp2_with (go_at_call 15; refine (awake_any hF).mono ?_; rintro e w4 ⟨rfl, hF4⟩)
    go_ret
    exact ⟨rfl, hF4.bel⟩
  by_cases c2 : a2 < 0
  · skip
    clear HF ht
    go_enter Tryd.func4, Tryd.ntmps4
    go_wp2_with (go_at_call 15; refine (awake_any hF).mono ?_; rintro e w4 ⟨rfl, hF4⟩)
    go_ret
    exact ⟨rfl, hF4.bel⟩
  by_cases c3 : 600 < a2
  · skip
    clear HF ht
    go_enter Tryd.func4, Tryd.ntmps4
    go_wp2_with (go_at_call 15; refine (awake_any hF).mono ?_; rintro e w4 ⟨rfl, hF4⟩)
    go_ret
    exact ⟨rfl, hF4.bel⟩
  obtain ⟨N, rfl⟩ := Int.eq_ofNat_of_zero_le (show 0 ≤ a0 by omega)
  obtain ⟨L, rfl⟩ := Int.eq_ofNat_of_zero_le (show 0 ≤ a2 by omega)
  obtain ⟨y1, y2⟩ := bd64 w1
  obtain ⟨i0, hi, hz0, hz1, hz2⟩ := info_parts info49
  have hN70 : N ≤ 70 := by omega
  have hL600 : L ≤ 600 := by omega
  clear ht hF w0 w1 w2 w4 c0 c2
  go_enter Tryd.func4, Tryd.ntmps4
  go_wp2_with (first
    | (go_at_call 16; refine Calls.mono HF.out ?_; rintro e w2 ⟨dp, j, d, rfl, hF2, hJ2, hR2, hn2, hc2, ho2⟩))
  have HREF : Hid (∀ wr v ks ds ls, GR w2 wr v ks ds ls → ks.length ≤ 1000 → checkCode (hasJ 275) ks ls = 1 → Calls Tryd.prog 18 #[.pointer (some ⟨j, 0, none⟩), v] wr (RfPost w.heap.size w j dp 1)) := fun wr v ks ds ls h hl hc => h.refuse hF2 hJ2 hR2 hn2 hl hc
  have HOK : Hid (∀ wr v gs, CB w2 wr v N f1 gs → N ≤ 30 → Calls Tryd.prog 18 #[.pointer (some ⟨j, 0, none⟩), v] wr (RfPost w.heap.size w j dp 0)) := fun wr v gs h h30 => h.okR hF2 hJ2 hR2 hn2 hc2 ho2 h30
  have HOK2 : Hid (∀ (wr w3 w5 : World) (v v' : Value) (k g : Nat) (gs : List Nat), CB w2 wr v N f1 gs → 245 + N ≤ k → k < 275 → Below wr.heap.size wr w3 → Full w3 g 5 zeros → wr.heap.size ≤ g → (w3.alloc (.cells #[.int .i64 (k : Int), s512 g] 49)).grownBy w5 v.ownBlock → w5.ownsRow w2.heap.size 49 2 v' (N + 1) (chv (hms N) gs ++ [.int .i64 (k : Int), s512 g]) → Calls Tryd.prog 18 #[.pointer (some ⟨j, 0, none⟩), v'] w5 (RfPost w.heap.size w j dp 0)) := fun wr w3 w5 v v' k g gs h q1 q2 q3 q4 q5 q6 q7 => h.okR2 hF2 hJ2 hR2 hn2 hc2 ho2 q1 q2 q3 q4 q5 q6 q7
  have HR4 : Hid (∀ l want wc, R3 w.heap.size w w2 j dp N l want wc → R4 w.heap.size w j dp l want wc) := fun l want wc h => h.plain hF2 hJ2 hR2 hn2
  clear hF2 hJ2 hR2 hn2 hc2 ho2 HF
  go_loopw [14, 15] (fun v i wr => ∃ k gs, k ≤ N ∧ i = .int .i64 ((k : Nat) : Int) ∧ CB w2 wr v k f1 gs) (fun _ i _ => N - (intOf i).toNat)
  case atStart => exact ⟨0, [], by omega, rfl, CB.nil _ _⟩
  case round =>
    obtain ⟨k, gs, hk, rfl, hC⟩ := hrel
    by_cases hlt : k < N
    · have hltI : (k : Int) < (N : Int) := by omega
      have x1 : k + 1 ≤ maxLen := by unfold maxLen; omega
      have x2 : (k + 1) * 32 ≤ 140737488355328 := by omega
      have HO4 : Hid (∀ w3 g, Below wr.heap.size wr w3 → (w3.alloc (.cells #[.int .i64 (245 + (k : Int)), .slice (some ⟨g, 0, none⟩) 512 512] 49)).ownsRow w2.heap.size 49 2 u14 k (chv (hms k) gs)) := fun w3 g hb => (owns_below hC.own hb).alloc _
      have HNW : Hid (∀ (w3 : World) (g : Nat) (j : Nat) (u : Value), [Value.int .i64 (245 + (k : Int)), .slice (some ⟨g, 0, none⟩) 512 512][j]? = some u → (w3.alloc (.cells #[.int .i64 (245 + (k : Int)), .slice (some ⟨g, 0, none⟩) 512 512] 49)).cell? ((⟨w3.heap.size, 0, none⟩ : Addr).add j) = some u) := by
        intro w3 g j u hj
        rw [Addr.add_lit, cell_of_row _ _ _ _ _ _ (heap_alloc_new w3 _)]
        simpa using hj
      have HH1 : Hid (∀ (g : Nat), ∀ u ∈ [Value.int .i64 (245 + (k : Int)), .slice (some ⟨g, 0, none⟩) 512 512], u.oneCell' = true) := by intro g u hu; simp at hu; rcases hu with rfl | rfl <;> rfl
      have HX3 : Hid (∀ w3 g, Below wr.heap.size wr w3 → w2.heap.size ≤ (w3.alloc (.cells #[.int .i64 (245 + (k : Int)), .slice (some ⟨g, 0, none⟩) 512 512] 49)).heap.size) := fun w3 g hb => by
        have q1 := hC.bel.size
        have q2 := hb.size
        show _ ≤ (w3.heap.push _).size
        simp; omega
      have HC : Hid (CB w2 wr u14 k f1 gs) := hC
      clear hC
      as_aux_lemma =>
        go_wp2_with (first
          | (go_at_call 22; refine (block_any _ _).mono ?_; rintro e w3 ⟨g, rfl, hg3, hge3, hb3⟩)
          | (at_builtin; refine wpList_append_own _ rfl _ _ 34 rfl w2.heap.size 49 i0 (.agg #[.int .i64 0, .slice none 0 0]) 2 32 Tryd.underlying34 hi hz0 hz1 hz2 rfl (by decide) u14 k (chv (hms k) gs) rfl (HO4.out w3 g hb3) ⟨w3.heap.size, 0, none⟩ 1 1 [Value.int .i64 (245 + (k : Int)), .slice (some ⟨g, 0, none⟩) 512 512] rfl rfl (HNW.out w3 g) (HH1.out g) x1 x2 (HX3.out w3 g hb3) ?_; intro v' w7 hown7 hg7 hnil7))
        exact ⟨⟨k + 1, gs ++ [g], by omega, by go_num, CB.step HC.out hb3 hg3 hge3 hg7 hown7⟩, by simp [intOf]; omega⟩
    · obtain rfl : k = N := by omega
      have HCB : Hid (CB w2 wr u14 k f1 gs) := hC
      clear hC
      go_upto_if 66 with fail
      go_cut [16] from 31 (fun s16 wc => wr = wc ∧ s16 = .int .i64 (if 60 < k then 2 else 0))
      case first =>
        by_cases h60 : 60 < k
        · have h60I : (60 : Int) < (k : Int) := by omega
          go_wp2_with fail
          go_meet
          case rel => exact ⟨rfl, by rw [if_pos h60]⟩
        · have h60I : ¬ (60 : Int) < (k : Int) := by omega
          go_wp2_with fail
          go_meet
          case rel => exact ⟨rfl, by rw [if_neg h60]⟩
      case rest =>
        obtain ⟨rfl, rfl⟩ := hcut
        obtain ⟨Z30, HZ30⟩ : ∃ z : Int, Hid ((if 30 < k then 1 else 0) = z) := ⟨_, rfl⟩
        go_upto_if 68 with fail
        go_cut [16] from 31 (fun s16 wc => wr = wc ∧ s16 = .int .i64 Z30)
        case first =>
          by_cases h30 : 30 < k
          · have h30I : (30 : Int) < (k : Int) := by omega
            go_wp2_with fail
            go_meet
            case rel => exact ⟨rfl, by rw [← HZ30.out, if_pos h30]⟩
          · have h30I : ¬ (30 : Int) < (k : Int) := by omega
            rw [if_neg (show ¬ 60 < k by omega)]
            go_wp2_with fail
            go_meet
            case rel => exact ⟨rfl, by rw [← HZ30.out, if_neg h30]⟩
        case rest =>
          obtain ⟨rfl, rfl⟩ := hcut
          have hlk : (nz (hms k)).length = k := by rw [nz_len, hms_len]
          have hhd : 0 < k → (245 : Int) ∈ nz (hms k) ∧ (nz (hms k)).getD 0 0 = 245 := fun h => ⟨mem_hms k 245 (by omega) (by omega), by rw [nz_get _ _ (by rw [hms_len]; exact h), hms_get k 0 h]; rfl⟩
          have hG := HCB.out.gr
          have HBASE : Hid (R3 w.heap.size w w2 j dp k u14 (.int .i64 Z30) wr) := by
            rw [← HZ30.out]
            refine ⟨_, _, _, _, rfl, hG, hhd, by rw [hlk]; omega, ?_⟩
            by_cases h30 : 30 < k
            · rw [if_pos h30]
              have := code_over k h30 [] []
              simp only [List.append_nil] at this
              exact .inl ⟨rfl, this⟩
            · rw [if_neg h30]
              exact .inr ⟨rfl, HOK.out _ _ _ HCB.out (by omega)⟩
          have HBAD : Hid (∀ w3 w5 v' a c, Below wr.heap.size wr w3 → (w3.alloc (.cells #[.int .i64 a1, .slice a L c] 49)).grownBy w5 u14.ownBlock → w5.ownsRow w2.heap.size 49 2 v' (k + 1) (gcl (nz (hms k)) (gs.map s512) ++ [.int .i64 a1, .slice a L c]) → (a1 ∈ nz (hms k) ∨ hasJ 275 a1 = false ∨ L ≠ 512) → R3 w.heap.size w w2 j dp k v' (.int .i64 1) w5) := fun w3 w5 v' a c q1 q2 q3 q4 => by
            have hA := hG.add (b := a1) q1 rfl (by omega) q2 (by rw [hlk]; exact q3)
            refine ⟨_, _, _, 1, rfl, hA, fun h => ⟨List.mem_append.2 (.inl (hhd h).1), ?_⟩, by simp [hlk]; omega, .inl ⟨rfl, code_last _ _ _ _ (by simp [hlk]) q4⟩⟩
            have := (hhd h).2
            simp only [List.getD] at this ⊢
            rw [List.getElem?_append_left (by omega)]
            exact this
          have HGOOD : Hid (∀ w3 w5 v', Below wr.heap.size wr w3 → Full w3 wr.heap.size 5 zeros → (w3.alloc (.cells #[.int .i64 a1, .slice (some ⟨wr.heap.size, 0, none⟩) 512 512] 49)).grownBy w5 u14.ownBlock → w5.ownsRow w2.heap.size 49 2 v' (k + 1) (gcl (nz (hms k)) (gs.map s512) ++ [.int .i64 a1, .slice (some ⟨wr.heap.size, 0, none⟩) 512 512]) → 245 + (k : Int) ≤ a1 → a1 < 275 → R3 w.heap.size w w2 j dp k v' (.int .i64 Z30) w5) := fun w3 w5 v' q1 q2 q3 q4 q5 q6 => by
            obtain ⟨z, rfl⟩ := Int.eq_ofNat_of_zero_le (show 0 ≤ a1 by omega)
            have hA := hG.add (b := (z : Int)) q1 rfl (by omega) q3 (by rw [hlk]; exact q4)
            rw [← HZ30.out, if_neg (show ¬ 30 < k by omega)]
            refine ⟨_, _, _, 0, rfl, hA, fun h => ⟨List.mem_append.2 (.inl (hhd h).1), ?_⟩, by simp [hlk]; omega, .inr ⟨rfl, HOK2.out wr w3 w5 u14 v' z wr.heap.size gs HCB.out (by omega) (by omega) q1 q2 (Nat.le_refl _) q3 (by rw [gcl_chv] at q4; exact q4)⟩⟩
            have := (hhd h).2
            simp only [List.getD] at this ⊢
            rw [List.getElem?_append_left (by omega)]
            exact this
          have HAPP : Hid (∀ w3, Below wr.heap.size wr w3 → (w3.alloc (.cells #[.int .i64 a1, .slice (some ⟨wr.heap.size, 0, none⟩) L L] 49)).ownsRow w2.heap.size 49 2 u14 k (gcl (nz (hms k)) (gs.map s512)) ∧ (∀ (j : Nat) (u : Value), [Value.int .i64 a1, .slice (some ⟨wr.heap.size, 0, none⟩) L L][j]? = some u → (w3.alloc (.cells #[.int .i64 a1, .slice (some ⟨wr.heap.size, 0, none⟩) L L] 49)).cell? ((⟨w3.heap.size, 0, none⟩ : Addr).add j) = some u) ∧ (∀ u ∈ [Value.int .i64 a1, .slice (some ⟨wr.heap.size, 0, none⟩) L L], u.oneCell' = true) ∧ w2.heap.size ≤ (w3.alloc (.cells #[.int .i64 a1, .slice (some ⟨wr.heap.size, 0, none⟩) L L] 49)).heap.size) := fun w3 hb => by
            have := hG.app hb a1 (.slice (some ⟨wr.heap.size, 0, none⟩) L L) rfl
            rw [hlk] at this
            exact this
          clear hG hhd hlk
          go_upto_if 70 with fail
          go_cut [14, 16] from 31 (fun s14 s16 wc => R3 w.heap.size w w2 j dp k s14 s16 wc)
          case first =>
            by_cases hk1 : a4 = 1
            · subst a4
              obtain ⟨i5, hi5, hz05, hz15, hz25⟩ := info_parts Tryd.info5
              have xb : i5.bytes * L ≤ 281474976710656 := by rw [hz25]; omega
              have xc : L ≤ maxLen := by unfold maxLen; omega
              have x1 : k + 1 ≤ maxLen := by unfold maxLen; omega
              have x2 : (k + 1) * 32 ≤ 140737488355328 := by omega
              by_cases b1 : a1 < 245
              · skip
                go_wp2_with (first
                  | (at_make; refine wpList_make_full _ rfl _ _ 40 rfl wr.heap.size 5 i5 (.int .u8 0) 1 Tryd.underlying40 hi5 hz05 hz15 .i64 .i64 _ _ L rfl rfl rfl rfl xb xc (Nat.le_refl _) ?_; intro w3 hown0 hg0; have hb1 := below_made hg0; obtain ⟨p1, p2, p3, p4⟩ := HAPP.out w3 hb1)
                  | (at_builtin; refine wpList_append_own _ rfl _ _ 34 rfl w2.heap.size 49 i0 (.agg #[.int .i64 0, .slice none 0 0]) 2 32 Tryd.underlying34 hi hz0 hz1 hz2 rfl (by decide) u14 k (gcl (nz (hms k)) (gs.map s512)) rfl p1 ⟨w3.heap.size, 0, none⟩ 1 1 [Value.int .i64 a1, .slice (some ⟨wr.heap.size, 0, none⟩) L L] rfl rfl p2 p3 x1 x2 p4 ?_; intro v' w7 hown7 hg7 hnil7))
                go_meet
                case rel => exact HBAD.out _ _ _ _ _ hb1 hg7 hown7 (.inr (.inl (by simp [hasJ]; omega)))
              by_cases b2 : 275 ≤ a1
              · skip
                go_wp2_with (first
                  | (at_make; refine wpList_make_full _ rfl _ _ 40 rfl wr.heap.size 5 i5 (.int .u8 0) 1 Tryd.underlying40 hi5 hz05 hz15 .i64 .i64 _ _ L rfl rfl rfl rfl xb xc (Nat.le_refl _) ?_; intro w3 hown0 hg0; have hb1 := below_made hg0; obtain ⟨p1, p2, p3, p4⟩ := HAPP.out w3 hb1)
                  | (at_builtin; refine wpList_append_own _ rfl _ _ 34 rfl w2.heap.size 49 i0 (.agg #[.int .i64 0, .slice none 0 0]) 2 32 Tryd.underlying34 hi hz0 hz1 hz2 rfl (by decide) u14 k (gcl (nz (hms k)) (gs.map s512)) rfl p1 ⟨w3.heap.size, 0, none⟩ 1 1 [Value.int .i64 a1, .slice (some ⟨wr.heap.size, 0, none⟩) L L] rfl rfl p2 p3 x1 x2 p4 ?_; intro v' w7 hown7 hg7 hnil7))
                go_meet
                case rel => exact HBAD.out _ _ _ _ _ hb1 hg7 hown7 (.inr (.inl (by simp [hasJ]; omega)))
              by_cases b3 : L = 512
              · subst b3
                by_cases b4 : a1 < 245 + (k : Int)
                · skip
                  go_wp2_with (first
                    | (at_make; refine wpList_make_full _ rfl _ _ 40 rfl wr.heap.size 5 i5 (.int .u8 0) 1 Tryd.underlying40 hi5 hz05 hz15 .i64 .i64 _ _ 512 rfl rfl rfl rfl xb xc (Nat.le_refl _) ?_; intro w3 hown0 hg0; have hb1 := below_made hg0; obtain ⟨p1, p2, p3, p4⟩ := HAPP.out w3 hb1)
                    | (at_builtin; refine wpList_append_own _ rfl _ _ 34 rfl w2.heap.size 49 i0 (.agg #[.int .i64 0, .slice none 0 0]) 2 32 Tryd.underlying34 hi hz0 hz1 hz2 rfl (by decide) u14 k (gcl (nz (hms k)) (gs.map s512)) rfl p1 ⟨w3.heap.size, 0, none⟩ 1 1 [Value.int .i64 a1, .slice (some ⟨wr.heap.size, 0, none⟩) 512 512] rfl rfl p2 p3 x1 x2 p4 ?_; intro v' w7 hown7 hg7 hnil7))
                  go_meet
                  case rel => exact HBAD.out _ _ _ _ _ hb1 hg7 hown7 (.inl (mem_hms k a1 (by omega) b4))
                · skip
                  go_wp2_with (first
                    | (at_make; refine wpList_make_full _ rfl _ _ 40 rfl wr.heap.size 5 i5 (.int .u8 0) 1 Tryd.underlying40 hi5 hz05 hz15 .i64 .i64 _ _ 512 rfl rfl rfl rfl xb xc (Nat.le_refl _) ?_; intro w3 hown0 hg0; have hb1 := below_made hg0; obtain ⟨p1, p2, p3, p4⟩ := HAPP.out w3 hb1)
                    | (at_builtin; refine wpList_append_own _ rfl _ _ 34 rfl w2.heap.size 49 i0 (.agg #[.int .i64 0, .slice none 0 0]) 2 32 Tryd.underlying34 hi hz0 hz1 hz2 rfl (by decide) u14 k (gcl (nz (hms k)) (gs.map s512)) rfl p1 ⟨w3.heap.size, 0, none⟩ 1 1 [Value.int .i64 a1, .slice (some ⟨wr.heap.size, 0, none⟩) 512 512] rfl rfl p2 p3 x1 x2 p4 ?_; intro v' w7 hown7 hg7 hnil7))
                  go_meet
                  case rel => exact HGOOD.out _ _ _ hb1 (made_own hown0) hg7 hown7 (by omega) (by omega)
              · have b3B : ((L : Int) != 512) = true := by simp; omega
                go_wp2_with (first
                  | (at_make; refine wpList_make_full _ rfl _ _ 40 rfl wr.heap.size 5 i5 (.int .u8 0) 1 Tryd.underlying40 hi5 hz05 hz15 .i64 .i64 _ _ L rfl rfl rfl rfl xb xc (Nat.le_refl _) ?_; intro w3 hown0 hg0; have hb1 := below_made hg0; obtain ⟨p1, p2, p3, p4⟩ := HAPP.out w3 hb1)
                  | (at_builtin; refine wpList_append_own _ rfl _ _ 34 rfl w2.heap.size 49 i0 (.agg #[.int .i64 0, .slice none 0 0]) 2 32 Tryd.underlying34 hi hz0 hz1 hz2 rfl (by decide) u14 k (gcl (nz (hms k)) (gs.map s512)) rfl p1 ⟨w3.heap.size, 0, none⟩ 1 1 [Value.int .i64 a1, .slice (some ⟨wr.heap.size, 0, none⟩) L L] rfl rfl p2 p3 x1 x2 p4 ?_; intro v' w7 hown7 hg7 hnil7))
                go_meet
                case rel => exact HBAD.out _ _ _ _ _ hb1 hg7 hown7 (.inr (.inr b3))
            · have hk1B : (a4 == 1) = false := beq_false_of_ne hk1
              go_wp2_with fail
              go_meet
              case rel => exact HBASE.out
          case rest =>
            generalize wc = Wc at *
            generalize u14 = l3 at *
            generalize u16 = q3 at *
            have HR3 : Hid (R3 w.heap.size w w2 j dp k l3 q3 Wc) := hcut
            clear hcut HBASE HBAD HGOOD HAPP HCB HOK HOK2
            go_upto_region 20 with fail
            go_cut [98] from 31 (fun s98 wx => Wc = wx ∧ s98 = .bool (a3 && decide (0 < k)))
            case first =>
              cases a3 with
              | false =>
                go_wp2_with fail
                go_meet
                case rel => exact ⟨rfl, rfl⟩
              | true =>
                by_cases h0 : 0 < k
                · have h0I : (0 : Int) < (k : Int) := by omega
                  go_wp2_with fail
                  go_meet
                  case rel => exact ⟨rfl, by rw [decide_eq_true h0]; rfl⟩
                · have h0I : ¬ (0 : Int) < (k : Int) := by omega
                  go_wp2_with fail
                  go_meet
                  case rel => exact ⟨rfl, by rw [decide_eq_false h0]; rfl⟩
            case rest =>
              obtain ⟨rfl, rfl⟩ := hcut
              go_upto_if 98 with fail
              go_cut [14, 16] from 31 (fun s14 s16 wx => R4 w.heap.size w j dp s14 s16 wx)
              case first =>
                cases hb : (a3 && decide (0 < k)) with
                | false =>
                  go_wp2_with fail
                  go_meet
                  case rel => exact HR4.out _ _ _ HR3.out
                | true =>
                  have h0 : 0 < k := by simp at hb; exact hb.2
                  obtain ⟨ks, ds, ls, code, rfl, hg, hmem, hlen, _⟩ := HR3.out
                  obtain ⟨m1, m2⟩ := hmem h0
                  have hpos : 0 < ks.length := List.length_pos_of_mem m1
                  obtain ⟨lk, cap, xa, xc, rfl, e1, e2, e3⟩ := hg.head hpos
                  rw [m2] at e1
                  obtain ⟨p1, p2, p3, p4⟩ := hg.app (Below.refl _ _) 245 (.slice xa (ls.getD 0 0) xc) rfl
                  have HRF : Hid (∀ w5 v', (Wc.alloc (.cells #[.int .i64 245, .slice xa (ls.getD 0 0) xc] 49)).grownBy w5 (Value.slice (some ⟨lk, 0, none⟩) ks.length cap).ownBlock → w5.ownsRow w2.heap.size 49 2 v' (ks.length + 1) (gcl ks ds ++ [.int .i64 245, .slice xa (ls.getD 0 0) xc]) → Calls Tryd.prog 18 #[.pointer (some ⟨j, 0, none⟩), v'] w5 (RfPost w.heap.size w j dp 1)) := fun w5 v' q1 q2 => HREF.out _ _ _ _ _ (hg.add (b := 245) (Below.refl _ _) rfl e3 q1 q2) (by simp; omega) (code_last _ _ _ _ hg.ll (.inl m1))
                  have hposI : (0 : Int) < (ks.length : Int) := by omega
                  have x1 : ks.length + 1 ≤ maxLen := by unfold maxLen; omega
                  have x2 : (ks.length + 1) * 32 ≤ 140737488355328 := by omega
                  have hlenI : (ks.length : Int) ≤ 72 := by omega
                  clear hg m1 m2 hmem HR3
                  generalize ls.getD 0 0 = ln at *
                  generalize gcl ks ds = cl at *
                  generalize ks.length = n3 at *
                  go_wp2_with (at_builtin; refine wpList_append_own _ rfl _ _ 34 rfl w2.heap.size 49 i0 (.agg #[.int .i64 0, .slice none 0 0]) 2 32 Tryd.underlying34 hi hz0 hz1 hz2 rfl (by decide) (.slice (some ⟨lk, 0, none⟩) n3 cap) n3 cl rfl p1 ⟨Wc.heap.size, 0, none⟩ 1 1 [Value.int .i64 245, .slice xa ln xc] rfl rfl p2 p3 x1 x2 p4 ?_; intro v' w7 hown7 hg7 hnil7)
                  go_meet
                  case rel => exact ⟨1, rfl, .inr rfl, HRF.out _ _ hg7 hown7⟩
              case rest =>
                obtain ⟨code, rfl, hcode, HC⟩ := hcut
                have HX0 : Hid (∀ W : World, (W.alloc (.cells (av z30) 30)).heap[W.heap.size]? = some (.cells (av z30) 30 (0, 0))) := fun W => heap_alloc_new W _
                have HXB : Hid (∀ W : World, Below W.heap.size W (W.alloc (.cells (av z30) 30))) := fun W => (Below.refl _ _).alloc (Nat.le_refl _) _
                have HZ0 : Hid ((Tryd.prog.info? 30).map (·.size) = some (av z30).size) := info30 z30 z30_len
                have HI0 : Hid (isB zs0 z30 = true) := isB_yes fun k _ => by
                  show zeros = bb (z30.getD k 0)
                  have : z30.getD k 0 = 0 := by
                    unfold z30
                    simp only [List.getD, List.getElem?_replicate]
                    split <;> rfl
                  rw [this]; decide +kernel
                clear HR3 HR4 HREF hi hz0 hz1 hz2
                rcases hcode with rfl | rfl
                · as_aux_lemma =>
                    go_wp2_with (first
                      | (go_at_call 18; refine Calls.mono HC.out ?_; rintro e w5 ⟨rfl, hF5, d5, T5, hJ5, hn5, hR5⟩; have ta : True := trivial; have hF6 := hF5; have hJ6 := hJ5)
                      | (go_at_call_of 25 (Value.int IntKind.i64 245); refine (newF hF6 245 (by omega) (by omega)).mono ?_; rintro e w7 ⟨p7, rfl, hF7, hD7, hb7, _⟩; have hJ7 := hJ6.below hb7)
                      | (go_at_call_of 25 (Value.int IntKind.i64 275); refine (newF hF7 275 (by omega) (by omega)).mono ?_; rintro e w8 ⟨p8, rfl, hF8, hD8, hb8, _⟩; have hJ8 := hJ7.below hb8; obtain ⟨F7, hd7, _⟩ := hD7.below hb8; obtain ⟨F8, hd8, _⟩ := hD8; have to1 : True := trivial)
                      | (go_at_call 23; have _h := to1; refine (open_small hd7 (show 245 < 246 by omega)).mono ?_; rintro e w' ⟨rfl, hw⟩; subst w'; clear _h to1; have to2 : True := trivial)
                      | (go_at_call 23; have _h := to2; refine (open_bad hd8 (show 246 ≤ 275 by omega) rfl).mono ?_; rintro e w9 ⟨rfl, hb9⟩; clear _h to2; have hJ9 := hJ8.below hb9; have hd9 := hd7.below hb9; have hF9 := hF8.below hb9; obtain ⟨FP9, hJo9, _⟩ := id hJ9; obtain ⟨F9, hdv9, _⟩ := hJ9.dev; have to3 : True := trivial)
                      | (go_at_call 26; have _h := to3; refine (jread_bad hJo9 244 (by rw [hn5]; rfl)).mono ?_; rintro e w' ⟨rfl, hw⟩; subst w'; clear _h to3; have to4 : True := trivial)
                      | (go_at_call 26; have _h := to4; refine (jread_bad hJo9 275 (by rw [hn5]; rfl)).mono ?_; rintro e w' ⟨rfl, hw⟩; subst w'; clear _h to4)
                      | (go_at_call 27; refine (format_small hd9 (show 245 < 246 by omega)).mono ?_; rintro e w' ⟨rfl, hw⟩; subst w')
                      | (go_at_call 28; refine (blocksD hdv9).mono ?_; rintro e w' ⟨rfl, hw⟩; subst w'; rw [hn5])
                      | (go_at_call 15; refine (awake_any hF9).mono ?_; rintro e w17 ⟨rfl, hF17⟩))
                    go_ret
                    exact ⟨rfl, hF17.bel⟩
                · as_aux_lemma =>
                    go_wp2_with (first
                      | (go_at_call 18; refine Calls.mono HC.out ?_; rintro e w5 ⟨rfl, hF5, d5, T5, hJ5, hn5, hR5⟩; have ta : True := trivial; have hR5' := hR5 rfl)
                      | (have _h := ta; refine wpList_load_row rfl 30 _ rfl w5.heap.size rfl 30 (av z30) (0, 0) _ (HX0.out w5) Tryd.underlying30 rfl HZ0.out ?_; clear _h ta)
                      | (go_at_call 24; refine (is_any (hJ5.below (HXB.out w5)) hR5' hn5 z30 z30_len).mono ?_; rintro e w6 ⟨rfl, hb6⟩; rw [HI0.out]; have hF6 := (hF5.below (HXB.out w5)).below hb6; have hJ6 := (hJ5.below (HXB.out w5)).below hb6)
                      | (go_at_call_of 25 (Value.int IntKind.i64 245); refine (newF hF6 245 (by omega) (by omega)).mono ?_; rintro e w7 ⟨p7, rfl, hF7, hD7, hb7, _⟩; have hJ7 := hJ6.below hb7)
                      | (go_at_call_of 25 (Value.int IntKind.i64 275); refine (newF hF7 275 (by omega) (by omega)).mono ?_; rintro e w8 ⟨p8, rfl, hF8, hD8, hb8, _⟩; have hJ8 := hJ7.below hb8; obtain ⟨F7, hd7, _⟩ := hD7.below hb8; obtain ⟨F8, hd8, _⟩ := hD8; have to1 : True := trivial)
                      | (go_at_call 23; have _h := to1; refine (open_small hd7 (show 245 < 246 by omega)).mono ?_; rintro e w' ⟨rfl, hw⟩; subst w'; clear _h to1; have to2 : True := trivial)
                      | (go_at_call 23; have _h := to2; refine (open_bad hd8 (show 246 ≤ 275 by omega) rfl).mono ?_; rintro e w9 ⟨rfl, hb9⟩; clear _h to2; have hJ9 := hJ8.below hb9; have hd9 := hd7.below hb9; have hF9 := hF8.below hb9; obtain ⟨FP9, hJo9, _⟩ := id hJ9; obtain ⟨F9, hdv9, _⟩ := hJ9.dev; have to3 : True := trivial)
                      | (go_at_call 26; have _h := to3; refine (jread_bad hJo9 244 (by rw [hn5]; rfl)).mono ?_; rintro e w' ⟨rfl, hw⟩; subst w'; clear _h to3; have to4 : True := trivial)
                      | (go_at_call 26; have _h := to4; refine (jread_bad hJo9 275 (by rw [hn5]; rfl)).mono ?_; rintro e w' ⟨rfl, hw⟩; subst w'; clear _h to4)
                      | (go_at_call 27; refine (format_small hd9 (show 245 < 246 by omega)).mono ?_; rintro e w' ⟨rfl, hw⟩; subst w')
                      | (go_at_call 28; refine (blocksD hdv9).mono ?_; rintro e w' ⟨rfl, hw⟩; subst w'; rw [hn5])
                      | (go_at_call 15; refine (awake_any hF9).mono ?_; rintro e w17 ⟨rfl, hF17⟩))
                    go_ret
                    exact ⟨rfl, hF17.bel⟩
end Go.Proofs.YtmodjgailmpfmaaDoor
