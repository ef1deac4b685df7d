/- changes: for a commit, each home once; what they make of a state. The plain side, and what stands while they are made. -/
import Derived.Test.YtmodjgailmpfmaaDoorLi
namespace Go.Proofs.YtmodjgailmpfmaaDoor
set_option linter.unusedSimpArgs false
set_option linter.unusedVariables false
open Go.RowKit Go.MapKept Go.Proofs
/-- A row of pairs of numbers. -/
def LRow (w : World) (la : Option Addr) (cl : List (Int × Int)) : Prop := ∀ i, i < cl.length → ∃ lk off, la = some ⟨lk, off, none⟩ ∧ w.cell? ⟨lk, off + i * 2, none⟩ = some (.int .i64 (cl.getD i (0, 0)).1) ∧ w.cell? ⟨lk, off + i * 2 + 1, none⟩ = some (.int .i64 (cl.getD i (0, 0)).2) ∧
  (-9223372036854775808 ≤ (cl.getD i (0, 0)).1 ∧ (cl.getD i (0, 0)).1 ≤ 9223372036854775807) ∧ (-9223372036854775808 ≤ (cl.getD i (0, 0)).2 ∧ (cl.getD i (0, 0)).2 ≤ 9223372036854775807)
theorem LRow.below {w w' : World} {la : Option Addr} {cl : List (Int × Int)} (h : LRow w la cl) (hb : Below w.heap.size w w') : LRow w' la cl := fun i hi => by
  obtain ⟨lk, off, e, h1, h2, h3⟩ := h i hi
  exact ⟨lk, off, e, by rw [hb.cell (World.block_lt_of_cell? _ _ h1)]; exact h1, by rw [hb.cell (World.block_lt_of_cell? _ _ h2)]; exact h2, h3⟩
theorem LRow.nil (w : World) (la : Option Addr) : LRow w la [] := by intro i hi; simp at hi
def rd (z : Int) (n : Nat) : Nat := (z % (n : Int)).toNat
theorem rd_lt (z : Int) (n : Nat) (hn : 0 < n) : rd z n < n := by
  unfold rd
  have := Int.emod_lt_of_pos z (show (0 : Int) < n by omega)
  have := Int.emod_nonneg z (show (n : Int) ≠ 0 by omega)
  omega
/-- Homes, values, the state. -/
structure Cs where
  hl : List Nat
  vs : List Nat
  st : List Int
def Cs.step (c : Cs) (p : Int × Int) : Cs := if 245 + rd p.1 30 ∈ c.hl then c else ⟨c.hl ++ [245 + rd p.1 30], c.vs ++ [rd p.2 200], c.st.set (rd p.1 30) (rd p.2 200 : Nat)⟩
def csOf (cl : List (Int × Int)) (st : List Int) : Cs := cl.foldl Cs.step ⟨[], [], st⟩
theorem csOf_take (cl : List (Int × Int)) (st : List Int) (i : Nat) (hi : i < cl.length) : csOf (cl.take (i + 1)) st = (csOf (cl.take i) st).step (cl.getD i (0, 0)) := by
  unfold csOf
  rw [List.take_add_one, List.foldl_append]
  have : cl[i]? = some (cl.getD i (0, 0)) := by simp [List.getD, hi]
  rw [this]; rfl
/-- What a state of numbers is, block by block. -/
def absS (st : List Int) : Nat → List Nat := fun k => bb (st.getD (k - 245) 0)
structure CsOk (c : Cs) (st0 : List Int) : Prop where
  len : c.vs.length = c.hl.length
  stl : c.st.length = 30
  nd : c.hl.Nodup
  home : ∀ k ∈ c.hl, 245 ≤ k ∧ k < 275
  few : c.hl.length ≤ 30
  new : ∀ k, 245 ≤ k → k < 275 → newS (absS st0) c.hl (c.vs.map fun v => bb (v : Nat)) k = absS c.st k
theorem getD_setI (l : List Int) (i j : Nat) (x : Int) (h : j < l.length) : (l.set i x).getD j 0 = if i = j then x else l.getD j 0 := by
  simp only [List.getD, List.getElem?_set]
  by_cases e : i = j
  · subst e; simp [h]
  · simp [e]
theorem few30 {l : List Nat} (hnd : l.Nodup) (hh : ∀ k ∈ l, 245 ≤ k ∧ k < 275) : l.length ≤ 30 := by
  have := fewNats 30 (l.map fun k => k - 245) ?_ ?_
  · simpa using this
  · refine List.pairwise_map.2 (List.Pairwise.imp_of_mem ?_ hnd)
    intro a b ha hb hne e
    have := hh a ha; have := hh b hb; omega
  · intro x hx
    obtain ⟨k, hk, rfl⟩ := List.mem_map.1 hx
    have := hh k hk; omega
theorem CsOk.start (st : List Int) (h : st.length = 30) : CsOk ⟨[], [], st⟩ st := ⟨rfl, h, by simp, by simp, by simp, fun k _ _ => by simp [newS]⟩
theorem CsOk.step {c : Cs} {st0 : List Int} (h : CsOk c st0) (p : Int × Int) : CsOk (c.step p) st0 := by
  unfold Cs.step
  split
  · exact h
  · rename_i hn
    have hr := rd_lt p.1 30 (by omega)
    have hh : ∀ k ∈ c.hl ++ [245 + rd p.1 30], 245 ≤ k ∧ k < 275 := fun k hk => by
      rcases List.mem_append.1 hk with q | q
      · exact h.home k q
      · simp at q; omega
    have hnd : (c.hl ++ [245 + rd p.1 30]).Nodup := List.nodup_append.2 ⟨h.nd, by simp, fun a ha b hb e => by simp at hb; exact hn (by rw [← hb, ← e]; exact ha)⟩
    refine ⟨by simp [h.len], by simp [h.stl], hnd, hh, few30 hnd hh, fun k h1 h2 => ?_⟩
    have ih := h.new k h1 h2
    unfold newS at ih ⊢
    simp only
    have hlen := h.len
    by_cases e : k = 245 + rd p.1 30
    · rw [if_pos (by rw [e]; simp), e, List.idxOf_append, if_neg hn]
      unfold absS
      rw [getD_setI _ _ _ _ (by rw [h.stl]; omega), if_pos (by omega)]
      simp [List.getD, ← hlen]
    · have e3 : absS (c.st.set (rd p.1 30) (rd p.2 200 : Nat)) k = absS c.st k := by
        unfold absS
        rw [getD_setI _ _ _ _ (by rw [h.stl]; omega), if_neg (by omega)]
      rw [e3, ← ih]
      by_cases hm : k ∈ c.hl
      · rw [if_pos (by simp [hm]), if_pos hm, List.idxOf_append, if_pos hm]
        have hi : c.hl.idxOf k < c.vs.length := by rw [hlen]; exact List.idxOf_lt_length_iff.2 hm
        simp [List.getD, List.getElem?_append, hi]
      · rw [if_neg (by rw [List.mem_append, List.mem_singleton]; exact fun c => c.elim hm e), if_neg hm]
theorem csOk (cl : List (Int × Int)) (st : List Int) (h : st.length = 30) : CsOk (csOf cl st) st := by
  unfold csOf
  have : ∀ (cl : List (Int × Int)) (c : Cs), CsOk c st → CsOk (cl.foldl Cs.step c) st := by
    intro cl
    induction cl with
    | nil => intro c h; exact h
    | cons a r ih => intro c h; exact ih _ (h.step a)
  exact this cl _ (CsOk.start st h)
/-- The cells of a row of changes. -/
def chv (hl gs : List Nat) : List Value := (List.zip hl gs).flatMap fun p => [Value.int .i64 (p.1 : Int), .slice (some ⟨p.2, 0, none⟩) 512 512]
theorem chv_len (hl gs : List Nat) (h : gs.length = hl.length) : (chv hl gs).length = hl.length * 2 := by
  unfold chv
  rw [List.length_flatMap]
  have : ((List.zip hl gs).map fun p => ([Value.int .i64 (p.1 : Int), Value.slice (some ⟨p.2, 0, none⟩) 512 512] : List Value).length) = List.replicate hl.length 2 := by
    rw [List.eq_replicate_iff]
    refine ⟨by simp [h], fun b hb => ?_⟩
    obtain ⟨_, _, rfl⟩ := List.mem_map.1 hb
    rfl
  rw [this, List.sum_replicate_nat]
theorem chv_app (hl gs : List Nat) (k g : Nat) (h : gs.length = hl.length) : chv (hl ++ [k]) (gs ++ [g]) = chv hl gs ++ [.int .i64 (k : Int), .slice (some ⟨g, 0, none⟩) 512 512] := by
  unfold chv
  rw [List.zip_append h.symm, List.flatMap_append]
  rfl
theorem chv_get : ∀ (hl gs : List Nat) (h : gs.length = hl.length) (i : Nat), i < hl.length → (chv hl gs)[i * 2]? = some (.int .i64 ((hl.getD i 0 : Nat) : Int)) ∧ (chv hl gs)[i * 2 + 1]? = some (.slice (some ⟨gs.getD i 0, 0, none⟩) 512 512)
  | [], _, _, i, hi => by simp at hi
  | a :: r, [], h, i, hi => by simp at h
  | a :: r, b :: s, h, 0, hi => by simp [chv]
  | a :: r, b :: s, h, i + 1, hi => by
    have := chv_get r s (by simpa using h) i (by simpa using hi)
    have e : chv (a :: r) (b :: s) = [.int .i64 (a : Int), .slice (some ⟨b, 0, none⟩) 512 512] ++ chv r s := by simp [chv]
    rw [e, show (i + 1) * 2 = i * 2 + 2 by omega]
    simpa using this
end Go.Proofs.YtmodjgailmpfmaaDoor
