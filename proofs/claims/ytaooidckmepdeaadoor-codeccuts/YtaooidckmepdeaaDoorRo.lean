/- Rows of records of the call's own; Clone. -/
import Derived.Test.YtaooidckmepdeaaDoorBx
import Derived.Laws.AppendOwnNone
import Derived.WalkSpells
namespace Go.Proofs.YtaooidckmepdeaaDoor
set_option linter.unusedSimpArgs false
set_option linter.unusedVariables false
open Go.RowKit
theorem Tryd.info87z : (Tryd.prog.info? 87).map (fun i => (i.zero, i.size)) = some (some (.agg rz.cells), 6) := by kernel_rfl
theorem Tryd.info87b : (Tryd.prog.info? 87).map (fun i => i.bytes) = some 64 := by kernel_rfl
/-- Records as cells. -/
def rcv (rs : List Rc) : List Value := (rs.map fun r => r.cells.toList).flatten
theorem cells_len (r : Rc) : r.cells.toList.length = 6 := rfl
theorem rcv_cons (r : Rc) (rs : List Rc) : rcv (r :: rs) = r.cells.toList ++ rcv rs := rfl
theorem rcv_app (a b : List Rc) : rcv (a ++ b) = rcv a ++ rcv b := by simp [rcv]
theorem rcv_len (rs : List Rc) : (rcv rs).length = rs.length * 6 := by
  induction rs with
  | nil => rfl
  | cons r t ih => rw [rcv_cons, List.length_append, cells_len, ih, List.length_cons]; omega
theorem rcv_get (rs : List Rc) (i j : Nat) (hi : i < rs.length) (hj : j < 6) : (rcv rs)[i * 6 + j]? = (rs.getD i rz).cells[j]? := by
  induction rs generalizing i with
  | nil => simp at hi
  | cons r t ih =>
    rw [rcv_cons]
    cases i with
    | zero =>
      rw [List.getElem?_append_left (by rw [cells_len]; omega)]
      simp
    | succ i =>
      rw [List.getElem?_append_right (by rw [cells_len]; omega), cells_len, show (i + 1) * 6 + j - 6 = i * 6 + j by omega, ih i (by simpa using hi)]
      rfl
theorem rcv_one (rs : List Rc) : ∀ u, u ∈ rcv rs → u.oneCell' = true := by
  intro u hu
  simp only [rcv, List.mem_flatten, List.mem_map] at hu
  obtain ⟨l, ⟨r, _, rfl⟩, hu⟩ := hu
  simp only [Rc.cells, List.mem_cons, List.not_mem_nil, or_false] at hu
  rcases hu with rfl | rfl | rfl | rfl | rfl | rfl <;> rfl
theorem rrow_news {w : World} {ad : Addr} {rs : List Rc} (h : RRow w (some ad) rs) : ∀ j u, (rcv rs)[j]? = some u → w.cell? (ad.add j) = some u := by
  intro j u hj
  have hjl : j < rs.length * 6 := by
    have := (List.getElem?_eq_some_iff.1 hj).1
    rwa [rcv_len] at this
  obtain ⟨b, off, e, z0, z1, z2, z3, z4, z5⟩ := h (j / 6) (by omega)
  injection e with e
  subst e
  have hd : j = j / 6 * 6 + j % 6 := by omega
  have hm : j % 6 < 6 := Nat.mod_lt _ (by decide)
  rw [hd, rcv_get rs (j / 6) (j % 6) (by omega) hm] at hj
  rw [Addr.add_lit, hd, ← Nat.add_assoc]
  generalize j / 6 = i at *
  generalize j % 6 = k at *
  match k, hm with
  | 0, _ => rw [Nat.add_zero, z0]; exact hj
  | 1, _ => rw [z1]; exact hj
  | 2, _ => rw [z2]; exact hj
  | 3, _ => rw [z3]; exact hj
  | 4, _ => rw [z4]; exact hj
  | 5, _ => rw [z5]; exact hj
theorem rrow_none {w : World} {rs : List Rc} (h : RRow w none rs) : rs = [] := by
  match rs, h with
  | [], _ => rfl
  | c :: r, h =>
    obtain ⟨_, _, e, _⟩ := h 0 (by simp)
    cases e
/-- A row of the call's own can be read. -/
theorem owns_rrow {w : World} {B : Nat} {v : Value} {rs : List Rc} (h : w.ownsRow B 87 6 v rs.length (rcv rs)) : ∃ a c, v = .slice a rs.length c ∧ RRow w a rs ∧ (a = none → c = 0) ∧ rs.length ≤ c ∧ c ≤ maxLen := by
  rcases h.2 with ⟨rfl, h0⟩ | ⟨g, cap, cur, rfl, hB, hg, hle, hm, _, _⟩
  · exact ⟨none, 0, by rw [h0], by rw [List.eq_nil_of_length_eq_zero h0]; exact RRow.nil _ _, fun _ => rfl, by omega, by unfold maxLen; omega⟩
  · refine ⟨_, cap, rfl, ?_, (fun c => by cases c), hle, hm⟩
    intro i hi
    have hc := fun j hj u hu => h.cells (g := g) rfl (i * 6 + j) u ((rcv_get rs i j hi hj).trans hu)
    refine ⟨g, 0, rfl, ?_, ?_, ?_, ?_, ?_, ?_⟩
    · have := hc 0 (by decide) (.bool (rs.getD i rz).hk) rfl
      simpa only [Addr.add_lit, Nat.zero_add, Nat.add_zero] using this
    · have := hc 1 (by decide) (.string (rs.getD i rz).k) rfl
      simpa only [Addr.add_lit, Nat.zero_add, Nat.add_zero] using this
    · have := hc 2 (by decide) (.bool (rs.getD i rz).hv) rfl
      simpa only [Addr.add_lit, Nat.zero_add, Nat.add_zero] using this
    · have := hc 3 (by decide) (.string (rs.getD i rz).v) rfl
      simpa only [Addr.add_lit, Nat.zero_add, Nat.add_zero] using this
    · have := hc 4 (by decide) (.int .i64 (rs.getD i rz).t) rfl
      simpa only [Addr.add_lit, Nat.zero_add, Nat.add_zero] using this
    · have := hc 5 (by decide) (.int .i64 (rs.getD i rz).o) rfl
      simpa only [Addr.add_lit, Nat.zero_add, Nat.add_zero] using this
theorem wpList_append_recs {w : World} {ops : Array Oper} {rest : List Oper} {o : Oper} {a : Act} {Q : Exit → Act → World → Prop} (hw : Region.wanted o (yielded ops a.tmps) = true) (s x : Operand)
    (ho : o.op = .call { callee := .builtin .append, args := #[s, x], argTypes := #[24, 24] }) (B : Nat) (w0 : World)
    (v : Value) (n : Nat) (xs : List Value) (hs : a.eval s = v) (hown : w.ownsRow B 87 6 v n xs) (hB : Below B w0 w) (hBs : B ≤ w.heap.size)
    (a' : Option Addr) (cap : Nat) (rs : List Rc) (hx : a.eval x = .slice a' rs.length cap) (hr : RRow w a' rs) (hn : a' = none → cap = 0) (h63 : n + rs.length ≤ 100000)
    (h : ∀ v' w', w'.ownsRow B 87 6 v' (n + rs.length) (xs ++ rcv rs) → Below B w0 w' → wpList Tryd.prog ops Q rest (a.put o.dst v') w') : wpList Tryd.prog ops Q (o :: rest) a w := by
  have hi0 := Tryd.info87z
  have hb0 := Tryd.info87b
  obtain ⟨i0, hi⟩ : ∃ i0, Tryd.prog.info? 87 = some i0 := by
    cases e : Tryd.prog.info? 87 with
    | none => rw [e] at hi0; cases hi0
    | some i => exact ⟨i, rfl⟩
  rw [hi] at hi0 hb0
  simp only [Option.map_some, Option.some.injEq, Prod.mk.injEq] at hi0 hb0
  cases a' with
  | none =>
    obtain rfl := rrow_none hr
    obtain rfl := hn rfl
    refine BigFrame.wpList_want hw fun K hK => ?_
    have hrun := run_append_owned_none (P := Tryd.prog) (w := w) B 24 o.type 87 i0 6 Tryd.underlying24 hi v n xs hown
    have h0 : wpList Tryd.prog ops Q rest (a.put o.dst v) w := h v w (by simpa [rcv] using hown) hB
    unfold Oper.wp
    simp [execOp, ho, resolve, invoke, builtin, hs, hx, hrun, Result.andThen]
    exact hK _ _ h0
  | some ad =>
    refine BigFrame.wpList_want hw fun K hK => ?_
    refine wp_append_own w s x 24 ho B 87 i0 (.agg rz.cells) 6 64 Tryd.underlying24 hi hi0.1 hi0.2 hb0 rfl (by decide) v n xs hs hown ad rs.length cap (rcv rs) hx (rcv_len rs) (rrow_news hr) (rcv_one _) (by unfold maxLen; omega) (by omega) hBs ?_
    intro v' w' h2 h3 _
    exact hK _ _ (h v' w' h2 (hB.grown h3 hBs (fun k hk => (hown.lt k hk).1)))
theorem wp_append_recs {w : World} {o : Oper} {a : Act} {K : Act → World → Prop} {Q : Exit → Act → World → Prop} (s x : Operand)
    (ho : o.op = .call { callee := .builtin .append, args := #[s, x], argTypes := #[24, 24] }) (B : Nat) (w0 : World)
    (v : Value) (n : Nat) (xs : List Value) (hs : a.eval s = v) (hown : w.ownsRow B 87 6 v n xs) (hB : Below B w0 w) (hBs : B ≤ w.heap.size)
    (ad : Addr) (cap : Nat) (rs : List Rc) (hx : a.eval x = .slice (some ad) rs.length cap) (hr : RRow w (some ad) rs) (h63 : n + rs.length ≤ 100000)
    (h : ∀ v' w', w'.ownsRow B 87 6 v' (n + rs.length) (xs ++ rcv rs) → Below B w0 w' → w.grownBy w' v.ownBlock → K (a.put o.dst v') w') : o.wp Tryd.prog a w K Q := by
  have hi0 := Tryd.info87z
  have hb0 := Tryd.info87b
  obtain ⟨i0, hi⟩ : ∃ i0, Tryd.prog.info? 87 = some i0 := by
    cases e : Tryd.prog.info? 87 with
    | none => rw [e] at hi0; cases hi0
    | some i => exact ⟨i, rfl⟩
  rw [hi] at hi0 hb0
  simp only [Option.map_some, Option.some.injEq, Prod.mk.injEq] at hi0 hb0
  refine wp_append_own w s x 24 ho B 87 i0 (.agg rz.cells) 6 64 Tryd.underlying24 hi hi0.1 hi0.2 hb0 rfl (by decide) v n xs hs hown ad rs.length cap (rcv rs) hx (rcv_len rs) (rrow_news hr) (rcv_one _) (by unfold maxLen; omega) (by omega) hBs ?_
  intro v' w' h2 h3 _
  exact h v' w' h2 (hB.grown h3 hBs (fun k hk => (hown.lt k hk).1)) h3
end Go.Proofs.YtaooidckmepdeaaDoor
