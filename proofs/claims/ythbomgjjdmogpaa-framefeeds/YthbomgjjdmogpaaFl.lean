/- Feed, without a walk: what its loop keeps; append of frames. -/
import Derived.Test.YthbomgjjdmogpaaFs
namespace Go.Proofs.Ythbomgjjdmogpaa
set_option linter.unusedSimpArgs false
set_option linter.unusedVariables false
open Go.RowKit
theorem Try.info23 : (Try.prog.info? 23).map (fun i => (i.zero, i.size, i.bytes)) = some (some (.slice none 0 0), 1, 24) := by kernel_rfl
theorem Try.info37 : (Try.prog.info? 37).map (·.size) = some 7 := by kernel_rfl
/-- The cells of a row of frames. -/
def FCells (w : World) (a : Option Addr) (fs : List Fr) : Prop := ∀ i, i < fs.length → ∃ g off, a = some ⟨g, off, none⟩ ∧ w.cell? ⟨g, off + i, none⟩ = some ((fs.getD i frz).v)
theorem vs_get (fs : List Fr) (i : Nat) (h : i < fs.length) : (fs.map Fr.v)[i]? = some ((fs.getD i frz).v) := by simp [List.getD, h]
theorem vs_one (fs : List Fr) : ∀ u, u ∈ fs.map Fr.v → u.oneCell' = true := by
  intro u hu
  simp only [List.mem_map] at hu
  obtain ⟨c, _, rfl⟩ := hu
  rfl
theorem fcells_news {w : World} {ad : Addr} {fs : List Fr} (h : FCells w (some ad) fs) : ∀ j u, (fs.map Fr.v)[j]? = some u → w.cell? (ad.add j) = some u := by
  intro j u hj
  have hjl : j < fs.length := by
    have := (List.getElem?_eq_some_iff.1 hj).1
    rwa [List.length_map] at this
  obtain ⟨b, off, e, hc⟩ := h j hjl
  injection e with e
  subst e
  rw [vs_get fs j hjl] at hj
  rw [Addr.add_lit, hc, hj]
/-- A row of frames of the call's own can be read. -/
theorem owns_frs {w : World} {B : Nat} {v : Value} {fs : List Fr} (h : w.ownsRow B 23 1 v fs.length (fs.map Fr.v)) : ∃ a c, v = .slice a fs.length c ∧ FCells w a fs ∧ fs.length ≤ maxLen ∧ (a = none → c = 0) := by
  rcases h.2 with ⟨rfl, h0⟩ | ⟨g, cap, cur, rfl, hB, hg, hle, hm, _, _⟩
  · exact ⟨none, 0, by rw [h0], fun i hi => by omega, by omega, fun _ => rfl⟩
  · refine ⟨_, cap, rfl, ?_, by omega, fun e => by cases e⟩
    intro i hi
    refine ⟨g, 0, rfl, ?_⟩
    have := h.cells (g := g) rfl i _ (vs_get fs i hi)
    simpa [Addr.add_lit] using this
theorem fcells_new (w : World) (f : Fr) : FCells (w.alloc (.cells #[f.v] 23)) (some ⟨w.heap.size, 0, none⟩) [f] := by
  intro i hi
  obtain rfl : i = 0 := by simpa using hi
  exact ⟨w.heap.size, 0, rfl, cell_of_row _ w.heap.size 0 #[f.v] 23 (0, 0) (heap_alloc_new w _)⟩
theorem wpList_append_frs {w : World} {ops : Array Oper} {rest : List Oper} {o : Oper} {a : Act} {Q : Exit → Act → World → Prop} (hw : Region.wanted o (yielded ops a.tmps) = true) (s x : Operand)
    (ho : o.op = .call { callee := .builtin .append, args := #[s, x], argTypes := #[22, 22] }) (B : Nat)
    (v : Value) (fs : List Fr) (hs : a.eval s = v) (hown : w.ownsRow B 23 1 v fs.length (fs.map Fr.v)) (hBs : B ≤ w.heap.size)
    (ao : Option Addr) (cap : Nat) (gs : List Fr) (hx : a.eval x = .slice ao gs.length cap) (hr : FCells w ao gs) (hn : ao = none → cap = 0) (h63 : fs.length + gs.length ≤ 2000000)
    (h : ∀ v' w', w'.ownsRow B 23 1 v' (fs ++ gs).length ((fs ++ gs).map Fr.v) → w.grownBy w' v.ownBlock → (v'.ownBlock = v.ownBlock ∨ ∀ x, v'.ownBlock = some x → w.heap.size ≤ x) → wpList Try.prog ops Q rest (a.put o.dst v') w') : wpList Try.prog ops Q (o :: rest) a w := by
  obtain ⟨i0, hi, hz0, hz1, hz2⟩ := info_parts Try.info23
  cases ao with
  | none =>
    have hg : gs = [] := by
      cases gs with
      | nil => rfl
      | cons c r => obtain ⟨_, _, e, _⟩ := hr 0 (by simp); cases e
    subst hg
    obtain rfl := hn rfl
    refine BigFrame.wpList_want hw fun K hK => ?_
    have hrun := run_append_owned_none (P := Try.prog) (w := w) B 22 o.type 23 i0 1 Try.underlying22 hi v fs.length (fs.map Fr.v) hown
    have h0 : wpList Try.prog ops Q rest (a.put o.dst v) w := h v w (by simpa using hown) (World.grownBy.refl _ _) (.inl rfl)
    unfold Oper.wp
    simp [execOp, ho, resolve, invoke, builtin, hs, hx, hrun, Result.andThen]
    exact hK _ _ h0
  | some ad =>
    refine BigFrame.wpList_want hw fun K hK => ?_
    obtain ⟨v', w', hr1, h2, h3, h4⟩ := run_append_own (P := Try.prog) w B 22 o.type 23 i0 (.slice none 0 0) 1 24 Try.underlying22 hi hz0 hz1 hz2 rfl (by decide) v fs.length (fs.map Fr.v) hown ad gs.length cap (gs.map Fr.v) (by simp) (fcells_news hr) (vs_one _) (by unfold maxLen; omega) (by omega) hBs
    have h5 : v'.ownBlock = v.ownBlock ∨ ∀ x, v'.ownBlock = some x → w.heap.size ≤ x := by
      rcases hown.2 with ⟨rfl, h0⟩ | ⟨g, cp, cur, rfl, _, hg, hle, hm, _, _⟩
      · have hz : fs = [] := List.eq_nil_of_length_eq_zero h0
        subst hz
        obtain ⟨v2, w2, hr2, h22, _, _⟩ := run_append_own (P := Try.prog) w w.heap.size 22 o.type 23 i0 (.slice none 0 0) 1 24 Try.underlying22 hi hz0 hz1 hz2 rfl (by decide) (.slice none 0 0) 0 [] (World.ownsRow_nil _ _ _ _) ad gs.length cap (gs.map Fr.v) (by simp) (fcells_news hr) (vs_one _) (by unfold maxLen; omega) (by omega) (Nat.le_refl _)
        rw [hr2] at hr1
        injection hr1 with e1 e2
        subst e1
        exact .inr (fun x hx => (h22.lt x hx).1)
      · by_cases hroom : fs.length + gs.length ≤ cp
        · obtain ⟨w2, hr2, _, _⟩ := run_append_fits (P := Try.prog) w B 22 o.type 23 i0 1 Try.underlying22 hi hz1 g fs.length cp (fs.map Fr.v) hown ad gs.length cap (gs.map Fr.v) (by simp) (fcells_news hr) (vs_one _) hroom
          rw [hr2] at hr1
          injection hr1 with e1 e2
          subst e1
          exact .inl rfl
        · have holds : ∀ j u, (fs.map Fr.v)[j]? = some u → w.cell? ((⟨g, 0, none⟩ : Addr).add j) = some u := hown.cells (g := g) rfl
          have hr2 := run_append_grow (P := Try.prog) w 22 o.type 23 i0 (.slice none 0 0) Try.underlying22 hi hz0 ⟨g, 0, none⟩ fs.length cp (fs.map Fr.v) (by rw [hz1]; simp) holds ad gs.length cap (gs.map Fr.v) (by rw [hz1]; simp) (fcells_news hr) (by omega) (by omega) (growslice_fits (by omega) (by rw [hz2]; omega))
          rw [hr2] at hr1
          injection hr1 with e1 e2
          subst e1
          exact .inr (fun x hx => by simp [Value.ownBlock] at hx; omega)
    unfold Oper.wp execOp
    simp only [ho, resolve, invoke, builtin, Sem.run_bind, Sem.run_pure, Result.andThen_ok, List.map_toArray, List.map_cons, List.map_nil, hs, hx, hr1]
    exact hK _ _ (h v' w' (by rw [List.length_append, List.map_append]; exact h2) h3 h5)
/-- Rows of unlike elements lie apart. -/
theorem row_box {w : World} {B p : Nat} {T : Value} {n : Nat} {xs : List Value} {cs : Array Value} {e t : TypeId} {s : Nat} (h : w.ownsRow B e s T n xs) (hp : w.heap[p]? = some (.cells cs t (0, 0))) (hne : e ≠ t) : ∀ x, T.ownBlock = some x → x ≠ p := by
  rcases h.2 with ⟨rfl, _⟩ | ⟨g, cap, cur, rfl, _, hg, _⟩
  · intro x e; cases e
  · rintro x e rfl
    simp [Value.ownBlock] at e
    subst e
    rw [hg] at hp
    simp at hp
    exact hne hp.2
theorem row_row {w : World} {B B' : Nat} {T T' : Value} {n n' : Nat} {xs xs' : List Value} {e t : TypeId} {s s' : Nat} (h : w.ownsRow B e s T n xs) (h' : w.ownsRow B' t s' T' n' xs') (hne : e ≠ t) : ∀ x, T.ownBlock = some x → T'.ownBlock ≠ some x := by
  rcases h'.2 with ⟨rfl, _⟩ | ⟨g, cap, cur, rfl, _, hg, _⟩
  · intro x e e2; cases e2
  · intro x e1 e2
    simp [Value.ownBlock] at e2
    subst e2
    exact row_box h hg hne _ e1 rfl
theorem FeIs.owns_off {w : World} {B B' p : Nat} {v : Value} {q : List Nat} {sh : Bool} {T : Value} {n : Nat} {xs : List Value} (h : FeIs w B p v q sh) (ho : w.ownsRow B' 23 1 T n xs) : ∀ x, T.ownBlock = some x → x ∉ fp p v := by
  obtain ⟨hd, hb, _⟩ := h.ex
  intro x hx hm
  rcases List.mem_cons.1 hm with rfl | hm
  · exact row_box ho hb.box (by decide) _ hx rfl
  · rcases h.body with ⟨rfl, _⟩ | ⟨g, rfl, hg, _⟩
    · simp [Value.ownBlock] at hm
    · simp only [Option.mem_toList] at hm
      exact row_row ho hg (by decide) _ hx hm
/-- The head, once b's bytes are taken into it. -/
theorem head_all {hd hd1 q l : List Nat} {h m : Nat} (hh : h = min 4 q.length) (hm : m = min (4 - h) l.length) (h1 : hd.take h = q.take 4) (h2 : hd1.take (h + m) = hd.take h ++ l.take m) : h + m = min 4 (q ++ l).length ∧ hd1.take (min 4 (q ++ l).length) = (q ++ l).take 4 := by
  have e : h + m = min 4 (q ++ l).length := by rw [List.length_append]; omega
  refine ⟨e, ?_⟩
  rw [← e, h2, h1, List.take_append]
  congr 1
  by_cases h4 : l.length ≤ 4 - q.length
  · rw [List.take_of_length_le h4, List.take_of_length_le (by omega)]
  · rw [show m = 4 - q.length by omega]
theorem drop_all {q l : List Nat} {h m : Nat} (hh : h = min 4 q.length) (hm : m = min (4 - h) l.length) (h4 : 4 ≤ (q ++ l).length) : (q ++ l).drop 4 = q.drop 4 ++ l.drop m := by
  rw [List.length_append] at h4
  rw [List.drop_append]
  rw [show m = 4 - q.length by omega]
theorem body_all {c r : List Nat} {size m : Nat} (hc : c.length ≤ size) (hm : m = min (size - c.length) r.length) : c ++ r.take m = (c ++ r).take size := by
  rw [List.take_append, List.take_of_length_le hc]
  congr 1
  by_cases h4 : r.length ≤ size - c.length
  · rw [List.take_of_length_le h4, List.take_of_length_le (by omega)]
  · rw [show m = size - c.length by omega]
end Go.Proofs.Ythbomgjjdmogpaa
