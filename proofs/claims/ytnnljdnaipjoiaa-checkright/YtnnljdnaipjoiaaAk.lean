/- Appends of one struct to a row of the call's own: what else lies in the row, for those that saw it shorter, stays. -/
import Derived.Test.YtnnljdnaipjoiaaAp
import Derived.Laws.OwnMore
namespace Go.Proofs.Ytnnljdnaipjoiaa
set_option linter.unusedSimpArgs false
set_option linter.unusedVariables false
open Go.RowKit
theorem run_append_keep {w : World} (base : Nat) (t ty e : TypeId) (i : TypeInfo) (z : Value) (size bytes : Nat) (ht : Try.prog.underlying t = some (.slice e)) (hi : Try.prog.info? e = some i) (hz : i.zero = some z)
    (hsize : i.size = size) (hby : i.bytes = bytes) (hzs : z.cells.size = size) (hsz : 0 < size)
    (v : Value) (n : Nat) (xs : List Value) (hown : w.ownsRow base e size v n xs)
    (a : Addr) (m c : Nat) (news : List Value) (hl : news.length = m * size) (hnews : ∀ j u, news[j]? = some u → w.cell? (a.add j) = some u) (h1 : ∀ u ∈ news, u.oneCell' = true)
    (h63 : n + m ≤ maxLen) (hbytes : (n + m) * bytes ≤ 140737488355328) (hbase : base ≤ w.heap.size) :
    ∃ v' w', (Builtin.append_ #[t, t] ty #[v, .slice (some a) m c]).run Try.prog w = .ok v' w' ∧ w'.ownsRow base e size v' (n + m) (xs ++ news) ∧ w.grownBy w' v.ownBlock ∧
      ∀ v0 n0 xs0, n0 ≤ n → w.ownsRow base e size v0 n0 xs0 → w'.ownsRow base e size v0 n0 xs0 := by
  obtain ⟨v', w', hr, h2, h3, _⟩ := run_append_own (P := Try.prog) w base t ty e i z size bytes ht hi hz hsize hby hzs hsz v n xs hown a m c news hl hnews h1 h63 hbytes hbase
  refine ⟨v', w', hr, h2, h3, fun v0 n0 xs0 hn h0 => ?_⟩
  rcases hown.2 with ⟨rfl, _⟩ | ⟨g, cap, cur, rfl, hB, hg, hle, hm, hcs, htake⟩
  · exact h0.kept (row := none) h3 (by cases h : v0.ownBlock <;> simp)
  · by_cases hroom : n + m ≤ cap
    · have hfit : n * i.size + news.length ≤ cur.size := by rw [hl, hcs, hsize, ← Nat.add_mul]; exact Nat.mul_le_mul_right _ hroom
      have hr2 := run_append_room (P := Try.prog) w t ty e i ht hi g n cap cur hg a m c news (by rw [hl, hsize]) hnews h1 hroom hfit
      rw [hr2] at hr
      injection hr with e1 e2
      by_cases hb : v0.ownBlock = some g
      · refine ⟨h0.1, ?_⟩
        rcases h0.2 with ⟨rfl, _⟩ | ⟨g', cap', cur', rfl, hB', hg', hle', hm', hcs', htake'⟩
        · simp [Value.ownBlock] at hb
        · simp only [Value.ownBlock, Option.map_some, Option.some.injEq] at hb
          subst hb
          rw [hg] at hg'
          simp only [Option.some.injEq, Obj.cells.injEq, true_and, and_true] at hg'
          subst hg'
          refine .inr ⟨g', cap', (cur.toList.take (n * i.size) ++ news ++ cur.toList.drop (n * i.size + news.length)).toArray, rfl, hB', ?_, hle', hm', ?_, ?_⟩
          · rw [← e2]
            exact setRow_heap w g' cur _ e _ hg
          · simp only [List.size_toArray, List.length_append, List.length_take, List.length_drop, Array.length_toList]
            omega
          · have hle2 : n0 * size ≤ n * i.size := by rw [hsize]; exact Nat.mul_le_mul_right _ hn
            rw [← htake', List.append_assoc, List.take_append_of_le_length (by simp only [List.length_take, Array.length_toList]; omega), List.take_take, Nat.min_eq_left hle2]
      · exact h0.kept h3 (.inr (by simpa [Value.ownBlock] using hb))
    · have holds : ∀ j u, xs[j]? = some u → w.cell? ((⟨g, 0, none⟩ : Addr).add j) = some u := World.ownsRow.cells (g := g) ⟨hown.1, .inr ⟨g, cap, cur, rfl, hB, hg, hle, hm, hcs, htake⟩⟩ rfl
      have hr2 := run_append_grow (P := Try.prog) w t ty e i z ht hi hz ⟨g, 0, none⟩ n cap xs (by rw [hown.1, hsize]) holds a m c news (by rw [hl, hsize]) hnews (by omega) (by unfold maxLen at h63; omega) (growslice_fits (by omega) (by rw [hby]; exact hbytes))
      rw [hr2] at hr
      injection hr with e1 e2
      subst e2
      exact h0.kept (row := none) ⟨rfl, rfl, rfl, by simp, fun k hk _ => Below.heap_alloc w.drew _ k hk⟩ (by cases h : v0.ownBlock <;> simp)
section
variable {α : Type} (c : α → List Value) (s : Nat)
/-- What an append of one struct leaves. -/
def ApK (B T : Nat) (w : World) (v : Value) (n : Nat) (xs new : List Value) (v' : Value) (w' : World) : Prop :=
  w'.ownsRow B T s v' (n + 1) (xs ++ new) ∧ w.grownBy w' v.ownBlock ∧ ∀ v0 n0 xs0, n0 ≤ n → w.ownsRow B T s v0 n0 xs0 → w'.ownsRow B T s v0 n0 xs0
end
theorem info_get {T : TypeId} {z : Value} {s b : Nat} (h1 : (Try.prog.info? T).map (fun i => (i.zero, i.size)) = some (some z, s)) (h2 : (Try.prog.info? T).map (fun i => i.bytes) = some b) : ∃ i, Try.prog.info? T = some i ∧ i.zero = some z ∧ i.size = s ∧ i.bytes = b := by
  cases e : Try.prog.info? T with
  | none => rw [e] at h1; cases h1
  | some i =>
    rw [e] at h1 h2
    simp only [Option.map_some, Option.some.injEq, Prod.mk.injEq] at h1 h2
    exact ⟨i, rfl, h1.1, h1.2, h2⟩
theorem run_cF {w : World} (B ty : Nat) (v : Value) (n : Nat) (xs : List Value) (hown : w.ownsRow B 91 9 v n xs) (hBs : B ≤ w.heap.size)
    (ad : Addr) (cap : Nat) (y : SK × Rc) (hr : ∀ j u, (cF y)[j]? = some u → w.cell? (ad.add j) = some u) (h63 : n + 1 ≤ 1000000) :
    ∃ v' w', (Builtin.append_ #[28, 28] ty #[v, .slice (some ad) 1 cap]).run Try.prog w = .ok v' w' ∧ ApK 9 B 91 w v n xs (cF y) v' w' := by
  obtain ⟨i, hi, hz, hs, hb⟩ := info_get Try.info91z Try.info91b
  exact run_append_keep B 28 ty 91 i _ 9 96 Try.underlying28 hi hz hs hb rfl (by decide) v n xs hown ad 1 cap (cF y) rfl hr (by intro u hu; simp only [cF, List.mem_cons, List.not_mem_nil, or_false] at hu; rcases hu with rfl | rfl | rfl | rfl | rfl | rfl | rfl | rfl | rfl <;> rfl) (by unfold maxLen; omega) (by omega) hBs
theorem run_cS {w : World} (B ty : Nat) (v : Value) (n : Nat) (xs : List Value) (hown : w.ownsRow B 93 5 v n xs) (hBs : B ≤ w.heap.size)
    (ad : Addr) (cap : Nat) (y : TK × Int) (hr : ∀ j u, (cS y)[j]? = some u → w.cell? (ad.add j) = some u) (h63 : n + 1 ≤ 1000000) :
    ∃ v' w', (Builtin.append_ #[29, 29] ty #[v, .slice (some ad) 1 cap]).run Try.prog w = .ok v' w' ∧ ApK 5 B 93 w v n xs (cS y) v' w' := by
  obtain ⟨i, hi, hz, hs, hb⟩ := info_get Try.info93z Try.info93b
  exact run_append_keep B 29 ty 93 i _ 5 48 Try.underlying29 hi hz hs hb rfl (by decide) v n xs hown ad 1 cap (cS y) rfl hr (by intro u hu; simp only [cS, List.mem_cons, List.not_mem_nil, or_false] at hu; rcases hu with rfl | rfl | rfl | rfl | rfl <;> rfl) (by unfold maxLen; omega) (by omega) hBs
theorem run_cP {w : World} (B ty : Nat) (v : Value) (n : Nat) (xs : List Value) (hown : w.ownsRow B 88 4 v n xs) (hBs : B ≤ w.heap.size)
    (ad : Addr) (cap : Nat) (y : PK × (Int × Int)) (hr : ∀ j u, (cP y)[j]? = some u → w.cell? (ad.add j) = some u) (h63 : n + 1 ≤ 1000000) :
    ∃ v' w', (Builtin.append_ #[30, 30] ty #[v, .slice (some ad) 1 cap]).run Try.prog w = .ok v' w' ∧ ApK 4 B 88 w v n xs (cP y) v' w' := by
  obtain ⟨i, hi, hz, hs, hb⟩ := info_get Try.info88z Try.info88b
  exact run_append_keep B 30 ty 88 i _ 4 40 Try.underlying30 hi hz hs hb rfl (by decide) v n xs hown ad 1 cap (cP y) rfl hr (by intro u hu; simp only [cP, List.mem_cons, List.not_mem_nil, or_false] at hu; rcases hu with rfl | rfl | rfl | rfl <;> rfl) (by unfold maxLen; omega) (by omega) hBs
section
variable {w : World} {ops : Array Oper} {rest : List Oper} {o : Oper} {a : Act} {Q : Exit → Act → World → Prop} {K : Act → World → Prop}
theorem wp_append_cF (s x : Operand) (ho : o.op = .call { callee := .builtin .append, args := #[s, x], argTypes := #[28, 28] }) (B : Nat)
    (v : Value) (n : Nat) (xs : List Value) (hs : a.eval s = v) (hown : w.ownsRow B 91 9 v n xs) (hBs : B ≤ w.heap.size)
    (ad : Addr) (cap : Nat) (y : SK × Rc) (hx : a.eval x = .slice (some ad) 1 cap) (hr : ∀ j u, (cF y)[j]? = some u → w.cell? (ad.add j) = some u) (h63 : n + 1 ≤ 1000000)
    (h : ∀ v' w', ApK 9 B 91 w v n xs (cF y) v' w' → K (a.put o.dst v') w') : o.wp Try.prog a w K Q := by
  obtain ⟨v', w', hr1, h2⟩ := run_cF B o.type v n xs hown hBs ad cap y hr h63
  unfold Oper.wp execOp
  simp only [ho, resolve, invoke, builtin, Sem.run_bind, Sem.run_pure, Result.andThen_ok, List.map_toArray, List.map_cons, List.map_nil, hs, hx, hr1]
  exact h v' w' h2
theorem wp_append_cS (s x : Operand) (ho : o.op = .call { callee := .builtin .append, args := #[s, x], argTypes := #[29, 29] }) (B : Nat)
    (v : Value) (n : Nat) (xs : List Value) (hs : a.eval s = v) (hown : w.ownsRow B 93 5 v n xs) (hBs : B ≤ w.heap.size)
    (ad : Addr) (cap : Nat) (y : TK × Int) (hx : a.eval x = .slice (some ad) 1 cap) (hr : ∀ j u, (cS y)[j]? = some u → w.cell? (ad.add j) = some u) (h63 : n + 1 ≤ 1000000)
    (h : ∀ v' w', ApK 5 B 93 w v n xs (cS y) v' w' → K (a.put o.dst v') w') : o.wp Try.prog a w K Q := by
  obtain ⟨v', w', hr1, h2⟩ := run_cS B o.type v n xs hown hBs ad cap y hr h63
  unfold Oper.wp execOp
  simp only [ho, resolve, invoke, builtin, Sem.run_bind, Sem.run_pure, Result.andThen_ok, List.map_toArray, List.map_cons, List.map_nil, hs, hx, hr1]
  exact h v' w' h2
theorem wp_append_cP (s x : Operand) (ho : o.op = .call { callee := .builtin .append, args := #[s, x], argTypes := #[30, 30] }) (B : Nat)
    (v : Value) (n : Nat) (xs : List Value) (hs : a.eval s = v) (hown : w.ownsRow B 88 4 v n xs) (hBs : B ≤ w.heap.size)
    (ad : Addr) (cap : Nat) (y : PK × (Int × Int)) (hx : a.eval x = .slice (some ad) 1 cap) (hr : ∀ j u, (cP y)[j]? = some u → w.cell? (ad.add j) = some u) (h63 : n + 1 ≤ 1000000)
    (h : ∀ v' w', ApK 4 B 88 w v n xs (cP y) v' w' → K (a.put o.dst v') w') : o.wp Try.prog a w K Q := by
  obtain ⟨v', w', hr1, h2⟩ := run_cP B o.type v n xs hown hBs ad cap y hr h63
  unfold Oper.wp execOp
  simp only [ho, resolve, invoke, builtin, Sem.run_bind, Sem.run_pure, Result.andThen_ok, List.map_toArray, List.map_cons, List.map_nil, hs, hx, hr1]
  exact h v' w' h2
theorem wpList_app_cF (hw : Region.wanted o (yielded ops a.tmps) = true) (s x : Operand) (ho : o.op = .call { callee := .builtin .append, args := #[s, x], argTypes := #[28, 28] }) (B : Nat)
    (v : Value) (n : Nat) (xs : List Value) (hs : a.eval s = v) (hown : w.ownsRow B 91 9 v n xs) (hBs : B ≤ w.heap.size)
    (ad : Addr) (cap : Nat) (y : SK × Rc) (hx : a.eval x = .slice (some ad) 1 cap) (hr : ∀ j u, (cF y)[j]? = some u → w.cell? (ad.add j) = some u) (h63 : n + 1 ≤ 1000000)
    (h : ∀ v' w', ApK 9 B 91 w v n xs (cF y) v' w' → wpList Try.prog ops Q rest (a.put o.dst v') w') : wpList Try.prog ops Q (o :: rest) a w :=
  BigFrame.wpList_want hw fun _ hK => wp_append_cF s x ho B v n xs hs hown hBs ad cap y hx hr h63 fun v' w' q => hK _ _ (h v' w' q)
theorem wpList_app_cP (hw : Region.wanted o (yielded ops a.tmps) = true) (s x : Operand) (ho : o.op = .call { callee := .builtin .append, args := #[s, x], argTypes := #[30, 30] }) (B : Nat)
    (v : Value) (n : Nat) (xs : List Value) (hs : a.eval s = v) (hown : w.ownsRow B 88 4 v n xs) (hBs : B ≤ w.heap.size)
    (ad : Addr) (cap : Nat) (y : PK × (Int × Int)) (hx : a.eval x = .slice (some ad) 1 cap) (hr : ∀ j u, (cP y)[j]? = some u → w.cell? (ad.add j) = some u) (h63 : n + 1 ≤ 1000000)
    (h : ∀ v' w', ApK 4 B 88 w v n xs (cP y) v' w' → wpList Try.prog ops Q rest (a.put o.dst v') w') : wpList Try.prog ops Q (o :: rest) a w :=
  BigFrame.wpList_want hw fun _ hK => wp_append_cP s x ho B v n xs hs hown hBs ad cap y hx hr h63 fun v' w' q => hK _ _ (h v' w' q)
end
end Go.Proofs.Ytnnljdnaipjoiaa
