/- append of noughts ('append(b, make([]byte, k)...)') onto a row of one's own. -/
import Derived.Test.YthbomgjjdmogpaaZr
import Derived.Lib.AppendZerosOnto
namespace Go.Proofs.Ythbomgjjdmogpaa
set_option linter.unusedSimpArgs false
set_option linter.unusedVariables false
open Go.RowKit
theorem zeroCells_u8 (n : Nat) : Builtin.zeroCells (Value.int .u8 0).cells n = (cv (List.replicate n 0)).toArray := by
  unfold Builtin.zeroCells
  apply Array.ext
  · simp [Value.cells, cv]
  · intro i h1 h2
    simp [Value.cells, cv, Nat.mod_one]
theorem grown_zeros {w : World} {B k n old : Nat} {l : List Nat} (hB : B ≤ w.heap.size) (hl : l.length = n) (hm : n + k ≤ maxLen) (row : Option Nat) :
    (w.drew.alloc (.cells ((cv l).toArray ++ Builtin.zeroCells (Value.int .u8 0).cells k ++ Builtin.zeroCells (Value.int .u8 0).cells (grownCap w (n + k) old 5 - (n + k))) 5)).ownsRow B 5 1 (.slice (some ⟨w.heap.size, 0, none⟩) (n + k) (grownCap w (n + k) old 5)) (n + k) (cv (l ++ List.replicate k 0)) ∧
      w.grownBy (w.drew.alloc (.cells ((cv l).toArray ++ Builtin.zeroCells (Value.int .u8 0).cells k ++ Builtin.zeroCells (Value.int .u8 0).cells (grownCap w (n + k) old 5 - (n + k))) 5)) row := by
  have hge := grownCap_ge w (n + k) old 5
  have hcm : grownCap w (n + k) old 5 ≤ maxLen := grownCap_le_maxLen w (n + k) old 5 hm
  rw [zeroCells_u8, zeroCells_u8]
  refine ⟨⟨by rw [cv_length]; simp [hl], .inr ⟨w.heap.size, _, _, rfl, hB, heap_alloc_new w.drew _, hge, hcm, ?_, ?_⟩⟩, ⟨rfl, rfl, rfl, by simp, fun k hk _ => heap_alloc_old w.drew _ hk⟩⟩
  · simp [cv_length, hl]; omega
  · have e : (n + k) * 1 = (cv (l ++ List.replicate k 0)).length := by rw [cv_length]; simp [hl]
    rw [e, Array.toList_append, Array.toList_append, List.toList_toArray, List.toList_toArray, ← cv_append]
    exact List.take_left
theorem app_zs {w : World} {B k : Nat} {v : Value} {l : List Nat} {ty : TypeId} (hown : w.ownsRow B 5 1 v l.length (cv l)) (hB : B ≤ w.heap.size) (hk : k ≤ 1000) (hl : l.length ≤ 100000) :
    ∃ v' w', (Builtin.append_ #[23, 3] ty #[v, .int .i64 (k : Int)]).run Try.prog w = .ok v' w' ∧ w'.ownsRow B 5 1 v' (l ++ List.replicate k 0).length (cv (l ++ List.replicate k 0)) ∧ w.grownBy w' v.ownBlock := by
  obtain ⟨i0, hi, hz0, hz1, hz2⟩ := info_parts Try.info5
  have hw : IntKind.i64.wrap (k : Int) = (k : Int) := by rw [IntKind.wrap_i64]; omega
  have hneg : ¬ ((k : Int) < 0) := by omega
  have hbig : ¬ (281474976710656 < (k : Int)) := by omega
  have hlen : (l ++ List.replicate k 0).length = l.length + k := by simp
  rw [hlen]
  by_cases hk0 : k = 0
  · subst hk0
    have hw0 : IntKind.i64.wrap 0 = 0 := by decide
    refine ⟨v, w, ?_, by simpa using hown, World.grownBy.refl _ _⟩
    rcases hown.2 with ⟨rfl, h0⟩ | ⟨g, cap, cur, rfl, hB, hg, hle, hm, hcs, htk⟩
    · simp [Builtin.append_, run_underlying Try.underlying23, run_underlying Try.underlying3, sizeOf, typeInfo, hi, hz1, hz2, asInt, asIntOf, hw0]
    · simp [Builtin.append_, run_underlying Try.underlying23, run_underlying Try.underlying3, sizeOf, typeInfo, hi, hz1, hz2, asInt, asIntOf, hw0, hle, storeCells]
  · rcases hown.2 with ⟨rfl, h0⟩ | ⟨g, cap, cur, rfl, hBg, hg, hle, hm, hcs, htk⟩
    · have hl0 : l = [] := List.eq_nil_of_length_eq_zero h0
      subst hl0
      have hr := Lib.run_append_nil_zeros (P := Try.prog) w 23 3 ty 5 i0 (.int .u8 0) .i64 .i64 Try.underlying23 Try.underlying3 hi hz0 k (by omega) (by rw [hz1]; omega) (by omega) (by rw [hz2]; omega)
      have hgr := grown_zeros (w := w) (B := B) (k := k) (n := 0) (old := 0) (l := []) hB rfl (by unfold maxLen; omega) (Value.ownBlock (.slice none 0 0))
      simp only [Nat.zero_add] at hgr
      refine ⟨_, _, hr, ?_, ?_⟩
      · have := hgr.1
        simpa [cv] using this
      · have := hgr.2
        simpa [cv] using this
    · by_cases hroom : l.length + k ≤ cap
      · have hnews : (cv (List.replicate k 0)).length = k := by rw [cv_length]; simp
        have hst := run_storeCells_at Try.prog g l.length 5 (cv (List.replicate k 0)) 0 cur w hg (by rw [hnews]; omega) (cv_one _)
        simp only [Nat.add_zero] at hst
        refine ⟨.slice (some ⟨g, 0, none⟩) (l.length + k) cap, w.setRow g (cur.toList.take l.length ++ cv (List.replicate k 0) ++ cur.toList.drop (l.length + (cv (List.replicate k 0)).length)).toArray, ?_, ?_, ?_⟩
        · have hkn : ¬ ((k : Int) ≤ 0) := by omega
          simp [Builtin.append_, run_underlying Try.underlying23, run_underlying Try.underlying3, sizeOf, typeInfo, zeroValue, hi, hz0, hz1, hz2, asInt, asIntOf, hw, hk0, hneg, hbig, hroom, zeroCells_u8, Addr.add_lit, hst, Result.andThen]
        · refine ⟨by rw [cv_length]; simp, .inr ⟨g, cap, _, rfl, hBg, setRow_heap w g cur _ 5 _ hg, hroom, hm, ?_, ?_⟩⟩
          · simp only [List.size_toArray, List.length_append, List.length_take, List.length_drop, Array.length_toList, hnews]
            omega
          · have e : (l.length + k) * 1 = (cv (l ++ List.replicate k 0)).length := by rw [cv_length]; simp
            rw [Nat.mul_one] at htk
            rw [e, List.toList_toArray, htk, ← cv_append]
            exact List.take_left
        · exact ⟨rfl, rfl, rfl, by simp, fun j _ hj => setRow_other w g j _ (fun e => hj (by simp [Value.ownBlock, e]))⟩
      · have holds : ∀ j u, (cv l)[j]? = some u → w.cell? ((⟨g, 0, none⟩ : Addr).add j) = some u := hown.cells (g := g) rfl
        have hfo := run_firstCells_some (P := Try.prog) w.drew 1 l.length ⟨g, 0, none⟩ l.length cap (cv l) (by rw [cv_length, Nat.mul_one]) (by simpa using holds)
        have hr := Lib.run_append_grow_zeros (P := Try.prog) w 23 3 ty 5 i0 (.int .u8 0) .i64 .i64 Try.underlying23 Try.underlying3 hi hz0 (some ⟨g, 0, none⟩) l.length cap (cv l) (by rw [hz1]; exact hfo) k (by omega) (by rw [hz1]; omega) (by omega) (by omega) (by rw [hz2]; omega) (growslice_fits (by omega) (by rw [hz2]; omega))
        have hgr := grown_zeros (w := w) (B := B) (k := k) (n := l.length) (old := cap) (l := l) hB rfl (by unfold maxLen; omega) (Value.ownBlock (.slice (some ⟨g, 0, none⟩) l.length cap))
        exact ⟨_, _, hr, hgr.1, hgr.2⟩
theorem wpList_append_zs {w : World} {ops : Array Oper} {rest : List Oper} {o : Oper} {a : Act} {Q : Exit → Act → World → Prop} (hgd : o.guard = none) (s x : Operand)
    (ho : o.op = .call { callee := .builtin .append, args := #[s, x], argTypes := #[23, 3] }) (B k : Nat) (v : Value) (l : List Nat) (hs : a.eval s = v) (hx : a.eval x = .int .i64 (k : Int)) (hown : w.ownsRow B 5 1 v l.length (cv l)) (hB : B ≤ w.heap.size) (hk : k ≤ 1000) (hl : l.length ≤ 100000)
    (h : ∀ v' w', w'.ownsRow B 5 1 v' (l ++ List.replicate k 0).length (cv (l ++ List.replicate k 0)) → w.grownBy w' v.ownBlock → wpList Try.prog ops Q rest (a.put o.dst v') w') : wpList Try.prog ops Q (o :: rest) a w := by
  obtain ⟨v', w', hr, h1, h2⟩ := app_zs (ty := o.type) hown hB hk hl
  exact Lib.wpList_append_run w hgd s x 23 3 ho v _ hs hx v' w' hr (h v' w' h1 h2)
end Go.Proofs.Ythbomgjjdmogpaa
