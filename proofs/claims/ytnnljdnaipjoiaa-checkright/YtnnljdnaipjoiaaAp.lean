/- Appends of one struct to a row of the call's own. -/
import Derived.Test.YtnnljdnaipjoiaaRk
namespace Go.Proofs.Ytnnljdnaipjoiaa
set_option linter.unusedSimpArgs false
set_option linter.unusedVariables false
open Go.RowKit
theorem Try.info91z : (Try.prog.info? 91).map (fun i => (i.zero, i.size)) = some (some (.agg #[.string ⟨#[]⟩, .int .i64 0, .int .i64 0, .bool false, .string ⟨#[]⟩, .bool false, .string ⟨#[]⟩, .int .i64 0, .int .i64 0]), 9) := by kernel_rfl
theorem Try.info91b : (Try.prog.info? 91).map (fun i => i.bytes) = some 96 := by kernel_rfl
theorem Try.info93z : (Try.prog.info? 93).map (fun i => (i.zero, i.size)) = some (some (.agg #[.string ⟨#[]⟩, .int .i64 0, .int .i64 0, .int .i64 0, .int .i64 0]), 5) := by kernel_rfl
theorem Try.info93b : (Try.prog.info? 93).map (fun i => i.bytes) = some 48 := by kernel_rfl
theorem Try.info88z : (Try.prog.info? 88).map (fun i => (i.zero, i.size)) = some (some (.agg #[.string ⟨#[]⟩, .int .i64 0, .int .i64 0, .int .i64 0]), 4) := by kernel_rfl
theorem Try.info88b : (Try.prog.info? 88).map (fun i => i.bytes) = some 40 := by kernel_rfl
theorem wpList_append_cF {w : World} {ops : Array Oper} {rest : List Oper} {o : Oper} {a : Act} {Q : Exit → Act → World → Prop} (hw : Region.wanted o (yielded ops a.tmps) = true) (s x : Operand)
    (ho : o.op = .call { callee := .builtin .append, args := #[s, x], argTypes := #[28, 28] }) (B : Nat) (w0 : World)
    (v : Value) (n : Nat) (xs : List Value) (hs : a.eval s = v) (hown : w.ownsRow B 91 9 v n xs) (hB : Below B w0 w) (hBs : B ≤ w.heap.size)
    (ad : Addr) (cap : Nat) (y : SK × Rc) (hx : a.eval x = .slice (some ad) 1 cap) (hr : ∀ j u, (cF y)[j]? = some u → w.cell? (ad.add j) = some u) (h63 : n + 1 ≤ 1000000)
    (h : ∀ v' w', w'.ownsRow B 91 9 v' (n + 1) (xs ++ cF y) → Below B w0 w' → w.grownBy w' v.ownBlock → wpList Try.prog ops Q rest (a.put o.dst v') w') : wpList Try.prog ops Q (o :: rest) a w := by
  have hi0 := Try.info91z
  have hb0 := Try.info91b
  obtain ⟨i0, hi⟩ : ∃ i0, Try.prog.info? 91 = some i0 := by
    cases e : Try.prog.info? 91 with
    | none => rw [e] at hi0; cases hi0
    | some i => exact ⟨i, rfl⟩
  rw [hi] at hi0 hb0
  simp only [Option.map_some, Option.some.injEq, Prod.mk.injEq] at hi0 hb0
  refine BigFrame.wpList_want hw fun K hK => ?_
  refine wp_append_own w s x 28 ho B 91 i0 (.agg #[.string ⟨#[]⟩, .int .i64 0, .int .i64 0, .bool false, .string ⟨#[]⟩, .bool false, .string ⟨#[]⟩, .int .i64 0, .int .i64 0]) 9 96 Try.underlying28 hi hi0.1 hi0.2 hb0 rfl (by decide) v n xs hs hown ad 1 cap (cF y) hx rfl hr (by intro u hu; simp only [cF, List.mem_cons, List.not_mem_nil, or_false] at hu; rcases hu with rfl | rfl | rfl | rfl | rfl | rfl | rfl | rfl | rfl <;> rfl) (by unfold maxLen; omega) (by omega) hBs ?_
  intro v' w' h2 h3 _
  exact hK _ _ (h v' w' h2 (hB.grown h3 hBs (fun k hk => (hown.lt k hk).1)) h3)
theorem wpList_append_cS {w : World} {ops : Array Oper} {rest : List Oper} {o : Oper} {a : Act} {Q : Exit → Act → World → Prop} (hw : Region.wanted o (yielded ops a.tmps) = true) (s x : Operand)
    (ho : o.op = .call { callee := .builtin .append, args := #[s, x], argTypes := #[29, 29] }) (B : Nat) (w0 : World)
    (v : Value) (n : Nat) (xs : List Value) (hs : a.eval s = v) (hown : w.ownsRow B 93 5 v n xs) (hB : Below B w0 w) (hBs : B ≤ w.heap.size)
    (ad : Addr) (cap : Nat) (y : TK × Int) (hx : a.eval x = .slice (some ad) 1 cap) (hr : ∀ j u, (cS y)[j]? = some u → w.cell? (ad.add j) = some u) (h63 : n + 1 ≤ 1000000)
    (h : ∀ v' w', w'.ownsRow B 93 5 v' (n + 1) (xs ++ cS y) → Below B w0 w' → w.grownBy w' v.ownBlock → wpList Try.prog ops Q rest (a.put o.dst v') w') : wpList Try.prog ops Q (o :: rest) a w := by
  have hi0 := Try.info93z
  have hb0 := Try.info93b
  obtain ⟨i0, hi⟩ : ∃ i0, Try.prog.info? 93 = some i0 := by
    cases e : Try.prog.info? 93 with
    | none => rw [e] at hi0; cases hi0
    | some i => exact ⟨i, rfl⟩
  rw [hi] at hi0 hb0
  simp only [Option.map_some, Option.some.injEq, Prod.mk.injEq] at hi0 hb0
  refine BigFrame.wpList_want hw fun K hK => ?_
  refine wp_append_own w s x 29 ho B 93 i0 (.agg #[.string ⟨#[]⟩, .int .i64 0, .int .i64 0, .int .i64 0, .int .i64 0]) 5 48 Try.underlying29 hi hi0.1 hi0.2 hb0 rfl (by decide) v n xs hs hown ad 1 cap (cS y) hx rfl hr (by intro u hu; simp only [cS, List.mem_cons, List.not_mem_nil, or_false] at hu; rcases hu with rfl | rfl | rfl | rfl | rfl <;> rfl) (by unfold maxLen; omega) (by omega) hBs ?_
  intro v' w' h2 h3 _
  exact hK _ _ (h v' w' h2 (hB.grown h3 hBs (fun k hk => (hown.lt k hk).1)) h3)
theorem wpList_append_cP {w : World} {ops : Array Oper} {rest : List Oper} {o : Oper} {a : Act} {Q : Exit → Act → World → Prop} (hw : Region.wanted o (yielded ops a.tmps) = true) (s x : Operand)
    (ho : o.op = .call { callee := .builtin .append, args := #[s, x], argTypes := #[30, 30] }) (B : Nat) (w0 : World)
    (v : Value) (n : Nat) (xs : List Value) (hs : a.eval s = v) (hown : w.ownsRow B 88 4 v n xs) (hB : Below B w0 w) (hBs : B ≤ w.heap.size)
    (ad : Addr) (cap : Nat) (y : PK × (Int × Int)) (hx : a.eval x = .slice (some ad) 1 cap) (hr : ∀ j u, (cP y)[j]? = some u → w.cell? (ad.add j) = some u) (h63 : n + 1 ≤ 1000000)
    (h : ∀ v' w', w'.ownsRow B 88 4 v' (n + 1) (xs ++ cP y) → Below B w0 w' → w.grownBy w' v.ownBlock → wpList Try.prog ops Q rest (a.put o.dst v') w') : wpList Try.prog ops Q (o :: rest) a w := by
  have hi0 := Try.info88z
  have hb0 := Try.info88b
  obtain ⟨i0, hi⟩ : ∃ i0, Try.prog.info? 88 = some i0 := by
    cases e : Try.prog.info? 88 with
    | none => rw [e] at hi0; cases hi0
    | some i => exact ⟨i, rfl⟩
  rw [hi] at hi0 hb0
  simp only [Option.map_some, Option.some.injEq, Prod.mk.injEq] at hi0 hb0
  refine BigFrame.wpList_want hw fun K hK => ?_
  refine wp_append_own w s x 30 ho B 88 i0 (.agg #[.string ⟨#[]⟩, .int .i64 0, .int .i64 0, .int .i64 0]) 4 40 Try.underlying30 hi hi0.1 hi0.2 hb0 rfl (by decide) v n xs hs hown ad 1 cap (cP y) hx rfl hr (by intro u hu; simp only [cP, List.mem_cons, List.not_mem_nil, or_false] at hu; rcases hu with rfl | rfl | rfl | rfl <;> rfl) (by unfold maxLen; omega) (by omega) hBs ?_
  intro v' w' h2 h3 _
  exact hK _ _ (h v' w' h2 (hB.grown h3 hBs (fun k hk => (hown.lt k hk).1)) h3)
end Go.Proofs.Ytnnljdnaipjoiaa
