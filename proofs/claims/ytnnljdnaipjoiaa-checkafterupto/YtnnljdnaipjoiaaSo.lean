/- A step by value, opened; rows of steps. -/
import Derived.Test.YtnnljdnaipjoiaaWx
import Derived.Laws.OwnMore
namespace Go.Proofs.Ytnnljdnaipjoiaa
set_option linter.unusedSimpArgs false
set_option linter.unusedVariables false
open Go.RowKit Go.ChangeShapes Go.WideShapes Go.ChangeAt
theorem array6 {α : Type} {cs : Array α} (h : cs.size = 6) : ∃ a b c d e f, cs = #[a, b, c, d, e, f] := by
  obtain ⟨l⟩ := cs
  match l, h with
  | [a, b, c, d, e, f], _ => exact ⟨a, b, c, d, e, f, rfl⟩
/-- A step as a value. -/
def spv (s : Sp) : Value := .agg s.cells
set_option maxRecDepth 100000 in
theorem step_up {H : Type} {enc : TypeId × Value → H} {W : World} {r : Reach} {base b0 : Nat} {sp : Nat → Bool} {held : Bool} {v : Value} {d : DataW H} {p : List MemPlace}
    (hv : Value.okWide Try.prog W r b0 35 v) (h : DataW.Trod enc Try.prog W base sp held 35 v d p) (hb : Rows.uptoBulk d ≤ big) : ∃ s : Sp, v = spv s ∧ SpUp W s := by
  obtain ⟨cs, rfl, hsz⟩ := okWide_struct Try.underlying35 hv
  obtain ⟨c0, c1, c2, c3, c4, c5, rfl⟩ := array6 (hsz.trans cells35)
  obtain ⟨fuel, hf⟩ := h
  obtain ⟨xs, k, hk, hxy, _, hxl, hg⟩ := DataW.trod_struct Try.underlying35 hf
  match xs, hxl with
  | [y0, y1, y2, y3, y4, y5], _ =>
    have g0 := hg 0 _ rfl
    have g1 := hg 1 _ rfl
    have g2 := hg 2 _ rfl
    have g3 := hg 3 _ rfl
    have g4 := hg 4 _ rfl
    have g5 := hg 5 _ rfl
    simp [cells3, cells9, cells33, Value.cells] at g0 g1 g2 g3 g4 g5
    obtain ⟨n0, q0, u0, w0⟩ := DataW.trod_string Try.underlying9 g0
    obtain ⟨n1, q1, _, w1⟩ := DataW.trod_int Try.underlying3 g1
    obtain ⟨n2, q2, _, w2⟩ := DataW.trod_int Try.underlying3 g2
    obtain ⟨n3, q3, _, w3⟩ := DataW.trod_int Try.underlying3 g3
    obtain ⟨n4, q4, _, w4⟩ := DataW.trod_int Try.underlying3 g4
    simp at q0 q1 q2 q3 q4
    subst q0; subst q1; subst q2; subst q3; subst q4
    obtain ⟨a1, l1, k1, rfl⟩ : ∃ a1 l1 c1, c5 = .slice a1 l1 c1 := by
      rcases Go.Deep.open_slice Try.underlying33 g5 with ⟨hcs, _⟩ | ⟨ad, len, cap, m, n, D, Pl, hcs, _⟩
      · simp at hcs; exact ⟨_, _, _, hcs⟩
      · simp at hcs; exact ⟨_, _, _, hcs⟩
    have hDi : d = .agg [y0.1, y1.1, y2.1, y3.1, y4.1, y5.1] := by have := congrArg Prod.fst hxy; simpa using this
    rw [hDi] at hb
    have b0 : n0.size ≤ big := bulk_str (congrArg Prod.fst u0) (Nat.le_trans (bulk_agg (by simp)) hb)
    obtain ⟨ss, rfl, hr⟩ := bats_up g5 (Nat.le_trans (bulk_agg (by simp)) hb)
    exact ⟨⟨n0, n1, n2, n3, n4, ss, a1, k1⟩, rfl, b0, hr⟩
theorem bulk_two {H : Type} {x y : DataW H} (h : Rows.uptoBulkAll [x, y] ≤ big) : Rows.uptoBulk x + 1 ≤ big := by
  have h1 := bulk_one y
  simp only [Rows.uptoBulkAll] at h
  omega
/-- A step's cells, one behind the other. -/
def cQ (s : Sp) : List Value := s.cells.toList
theorem cQ_len (s : Sp) : (cQ s).length = 6 := rfl
theorem Try.info35z : (Try.prog.info? 35).map (fun i => (i.zero, i.size)) = some (some (.agg #[.string ⟨#[]⟩, .int .i64 0, .int .i64 0, .int .i64 0, .int .i64 0, .slice none 0 0]), 6) := by kernel_rfl
theorem Try.info35b : (Try.prog.info? 35).map (fun i => i.bytes) = some 72 := by kernel_rfl
theorem scells_news {w : World} {ad : Addr} {l : List Sp} (h : SCells w (some ad) l) : ∀ j u, (rowv cQ l)[j]? = some u → w.cell? (ad.add j) = some u := by
  intro j u hj
  have hjl : j < l.length * 6 := by
    have h1 := (List.getElem?_eq_some_iff.1 hj).1
    rwa [rowv_len cQ 6 cQ_len] at h1
  have hi : j / 6 < l.length := by omega
  have hm : j % 6 < 6 := Nat.mod_lt _ (by decide)
  have e : (j / 6) * 6 + j % 6 = j := by omega
  have hget := rowv_get cQ 6 cQ_len l (j / 6) (j % 6) (l.getD (j / 6) spz) (by simp [List.getD, hi]) hm
  rw [e, hj] at hget
  obtain ⟨b, off, e2, h0, h1, h2, h3, h4, h5⟩ := h (j / 6) hi
  injection e2 with e2
  subst e2
  generalize l.getD (j / 6) spz = s at *
  obtain ⟨q, r, hq, hr⟩ : ∃ q r, j / 6 = q ∧ j % 6 = r := ⟨_, _, rfl, rfl⟩
  rw [hq, hr] at e
  rw [hr] at hget hm
  rw [hq] at h0 h1 h2 h3 h4 h5
  rw [Addr.add_lit, ← e, ← Nat.add_assoc]
  unfold cQ Sp.cells at hget
  match r, hm with
  | 0, _ => simp at hget; rw [Nat.add_zero, h0]; exact congrArg some hget.symm
  | 1, _ => simp at hget; rw [h1]; exact congrArg some hget.symm
  | 2, _ => simp at hget; rw [h2]; exact congrArg some hget.symm
  | 3, _ => simp at hget; rw [h3]; exact congrArg some hget.symm
  | 4, _ => simp at hget; rw [h4]; exact congrArg some hget.symm
  | 5, _ => simp at hget; rw [h5]; exact congrArg some hget.symm
theorem own_scells {w : World} {B : Nat} {v : Value} {l : List Sp} (h : w.ownsRow B 35 6 v l.length (rowv cQ l)) : ∃ a c, v = .slice a l.length c ∧ SCells w a l := by
  by_cases h0 : 0 < l.length
  · obtain ⟨g, cap, rfl, _, _, hc⟩ := own_rowv cQ 6 cQ_len h h0
    refine ⟨_, _, rfl, fun i hi => ⟨g, 0, rfl, ?_, ?_, ?_, ?_, ?_, ?_⟩⟩
    all_goals
      have hg : l[i]? = some (l.getD i spz) := by simp [List.getD, hi]
      rw [Nat.zero_add]
    · exact hc i _ hg 0 _ rfl
    · exact hc i _ hg 1 _ rfl
    · exact hc i _ hg 2 _ rfl
    · exact hc i _ hg 3 _ rfl
    · exact hc i _ hg 4 _ rfl
    · exact hc i _ hg 5 _ rfl
  · obtain ⟨g, c, rfl⟩ := own_slice h
    exact ⟨g, c, rfl, fun i hi => by omega⟩
theorem cQ_one (l : List Sp) : ∀ u, u ∈ rowv cQ l → u.oneCell' = true := by
  intro u hu
  simp only [rowv, List.mem_flatten, List.mem_map] at hu
  obtain ⟨x, ⟨s, _, rfl⟩, h2⟩ := hu
  simp only [cQ, Sp.cells, List.mem_cons, List.not_mem_nil, or_false] at h2
  rcases h2 with rfl | rfl | rfl | rfl | rfl | rfl <;> rfl
/-- Steps appended to steps. -/
theorem run_app_steps {w : World} (B ty : Nat) (v : Value) (l m : List Sp) (hown : w.ownsRow B 35 6 v l.length (rowv cQ l)) (hBs : B ≤ w.heap.size)
    (a : Option Addr) (cap : Nat) (hr : SCells w a m) (hn : a = none → cap = 0) (h63 : l.length + m.length ≤ 2000000) :
    ∃ v' w', (Builtin.append_ #[22, 22] ty #[v, .slice a m.length cap]).run Try.prog w = .ok v' w' ∧ w'.ownsRow B 35 6 v' (l ++ m).length (rowv cQ (l ++ m)) ∧ w.grownBy w' v.ownBlock := by
  obtain ⟨i, hi, hz, hs, hb⟩ := info_get Try.info35z Try.info35b
  cases a with
  | none =>
    have hm : m = [] := by
      cases m with
      | nil => rfl
      | cons c r => obtain ⟨_, _, e, _⟩ := hr 0 (by simp); cases e
    subst hm
    obtain rfl := hn rfl
    exact ⟨v, w, run_append_owned_none (P := Try.prog) (w := w) B 22 ty 35 i 6 Try.underlying22 hi v l.length (rowv cQ l) hown, by rw [List.append_nil]; exact hown, World.grownBy.refl _ _⟩
  | some ad =>
    obtain ⟨v', w', h1, h2, h3, _⟩ := run_append_own (P := Try.prog) w B 22 ty 35 i _ 6 72 Try.underlying22 hi hz hs hb rfl (by decide) v l.length (rowv cQ l) hown ad m.length cap (rowv cQ m) (by rw [rowv_len cQ 6 cQ_len]) (scells_news hr) (cQ_one m) (by unfold maxLen; omega) (by omega) hBs
    exact ⟨v', w', h1, by rw [List.length_append, rowv_app]; exact h2, h3⟩
theorem wp_app_steps {w : World} {o : Oper} {a : Act} {Q : Exit → Act → World → Prop} {K : Act → World → Prop} (s x : Operand) (ho : o.op = .call { callee := .builtin .append, args := #[s, x], argTypes := #[22, 22] }) (B : Nat)
    (v : Value) (l m : List Sp) (hs : a.eval s = v) (hown : w.ownsRow B 35 6 v l.length (rowv cQ l)) (hBs : B ≤ w.heap.size)
    (ad : Option Addr) (n cap : Nat) (hx : a.eval x = .slice ad n cap) (hm : n = m.length) (hr : SCells w ad m) (hn : ad = none → cap = 0) (h63 : l.length + m.length ≤ 2000000)
    (h : ∀ v' w', w'.ownsRow B 35 6 v' (l ++ m).length (rowv cQ (l ++ m)) → w.grownBy w' v.ownBlock → K (a.put o.dst v') w') : o.wp Try.prog a w K Q := by
  subst hm
  obtain ⟨v', w', hr1, h2, h3⟩ := run_app_steps B o.type v l m hown hBs ad cap hr hn h63
  unfold Oper.wp execOp
  simp only [ho, resolve, invoke, builtin, Sem.run_bind, Sem.run_pure, Result.andThen_ok, List.map_toArray, List.map_cons, List.map_nil, hs, hx, hr1]
  exact h v' w' h2 h3
end Go.Proofs.Ytnnljdnaipjoiaa
