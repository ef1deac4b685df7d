/- The document's partition: All. -/
import Derived.Test.YtnnljdnaipjoiaaQj
namespace Go.Proofs.Ytnnljdnaipjoiaa
set_option linter.unusedSimpArgs false
set_option linter.unusedVariables false
open Go.RowKit
/-- All batches. -/
def flatB (L : List Sg) : List Bs := (L.map (·.ss)).flatten
theorem flatB_snoc (L : List Sg) (k : Nat) (h : k < L.length) : flatB (L.take (k + 1)) = flatB (L.take k) ++ (L.getD k sgz).ss := by
  unfold flatB
  rw [List.take_succ_eq_append_getElem h, List.map_append, List.flatten_append]
  simp [List.getD, h]
theorem flatB_len (L : List Sg) (h : ∀ i, i < L.length → (L.getD i sgz).ss.length ≤ 100) (k : Nat) (hk : k ≤ L.length) : (flatB (L.take k)).length ≤ k * 100 := by
  induction k with
  | zero => simp [flatB]
  | succ k ih =>
    rw [flatB_snoc L k (by omega), List.length_append]
    have h1 := ih (by omega)
    have h2 := h k (by omega)
    omega
theorem run_app_bats {w : World} (B ty : Nat) (v : Value) (l m : List Bs) (hown : w.ownsRow B 61 5 v l.length (bcv l)) (hBs : B ≤ w.heap.size) (a : Option Addr) (cap : Nat) (hr : BCells w a m) (hn : a = none → cap = 0) (h63 : l.length + m.length ≤ 100000) :
    ∃ v' w', (Builtin.append_ #[33, 33] ty #[v, .slice a m.length cap]).run Try.prog w = .ok v' w' ∧ w'.ownsRow B 61 5 v' (l ++ m).length (bcv (l ++ m)) ∧ w.grownBy w' v.ownBlock ∧ (v'.ownBlock = v.ownBlock ∨ v'.ownBlock = some w.heap.size) := by
  obtain ⟨i, hi, hz, hs, hb⟩ := info_get Try.info61z Try.info61b
  cases a with
  | none =>
    have hm : m = [] := by
      cases m with
      | nil => rfl
      | cons c r => obtain ⟨_, _, e, _⟩ := hr 0 (by simp); cases e
    subst hm
    obtain rfl := hn rfl
    exact ⟨v, w, run_append_owned_none (P := Try.prog) (w := w) B 33 ty 61 i 5 Try.underlying33 hi v l.length (bcv l) hown, by rw [List.append_nil]; exact hown, World.grownBy.refl _ _, .inl rfl⟩
  | some ad =>
    obtain ⟨v', w', h1, h2, h3, _, h5⟩ := run_append_own_at (P := Try.prog) (w := w) B 33 ty 61 i _ 5 56 Try.underlying33 hi hz hs hb rfl (by decide) v l.length (bcv l) hown ad m.length cap (bcv m) (bcv_len m) (brow_news hr) (bcv_one m) (by unfold maxLen; omega) (by omega) hBs
    exact ⟨v', w', h1, by rw [List.length_append, bcv_app]; exact h2, h3, h5⟩
theorem wp_app_bats {w : World} {o : Oper} {a : Act} {Q : Exit → Act → World → Prop} {K : Act → World → Prop} (s x : Operand) (ho : o.op = .call { callee := .builtin .append, args := #[s, x], argTypes := #[33, 33] }) (B : Nat)
    (v : Value) (l m : List Bs) (hs : a.eval s = v) (hown : w.ownsRow B 61 5 v l.length (bcv l)) (hBs : B ≤ w.heap.size)
    (ad : Option Addr) (n cap : Nat) (hx : a.eval x = .slice ad n cap) (hm : n = m.length) (hr : BCells w ad m) (hn : ad = none → cap = 0) (h63 : l.length + m.length ≤ 100000)
    (h : ∀ v' w', w'.ownsRow B 61 5 v' (l ++ m).length (bcv (l ++ m)) → w.grownBy w' v.ownBlock → (v'.ownBlock = v.ownBlock ∨ v'.ownBlock = some w.heap.size) → K (a.put o.dst v') w') : o.wp Try.prog a w K Q := by
  subst hm
  obtain ⟨v', w', hr1, h2, h3, h4⟩ := run_app_bats B o.type v l m hown hBs ad cap hr hn h63
  unfold Oper.wp execOp
  simp only [ho, resolve, invoke, builtin, Sem.run_bind, Sem.run_pure, Result.andThen_ok, List.map_toArray, List.map_cons, List.map_nil, hs, hx, hr1]
  exact h v' w' h2 h3 h4
theorem wpList_app_bats {w : World} {ops : Array Oper} {rest : List Oper} {o : Oper} {a : Act} {Q : Exit → Act → World → Prop} (hw : Region.wanted o (yielded ops a.tmps) = true) (s x : Operand) (ho : o.op = .call { callee := .builtin .append, args := #[s, x], argTypes := #[33, 33] }) (B : Nat)
    (v : Value) (l m : List Bs) (hs : a.eval s = v) (hown : w.ownsRow B 61 5 v l.length (bcv l)) (hBs : B ≤ w.heap.size)
    (ad : Option Addr) (n cap : Nat) (hx : a.eval x = .slice ad n cap) (hm : n = m.length) (hr : BCells w ad m) (hn : ad = none → cap = 0) (h63 : l.length + m.length ≤ 100000)
    (h : ∀ v' w', w'.ownsRow B 61 5 v' (l ++ m).length (bcv (l ++ m)) → w.grownBy w' v.ownBlock → (v'.ownBlock = v.ownBlock ∨ v'.ownBlock = some w.heap.size) → wpList Try.prog ops Q rest (a.put o.dst v') w') : wpList Try.prog ops Q (o :: rest) a w := by
  refine BigFrame.wpList_want hw fun K hK => ?_
  exact wp_app_bats s x ho B v l m hs hown hBs ad n cap hx hm hr hn h63 fun v' w' q1 q2 q3 => hK _ _ (h v' w' q1 q2 q3)
theorem SgIs.nil {B : Nat} {y : World} {s : Sg} (h : SgIs B y s) : s.a = none → s.c = 0 := by
  intro e
  rcases h.own.2 with ⟨q, _⟩ | ⟨g, cap, cur, q, _⟩
  · simp only [Sg.v, Value.slice.injEq] at q; exact q.2.2
  · simp only [Sg.v, e, Value.slice.injEq] at q; cases q.1
theorem own_bel' {B : Nat} {a w z : World} {r : Option Nat} (h : Below B a w) (hB : B ≤ w.heap.size) (hg : w.grownBy z r) (hr : ∀ x, r = some x → B ≤ x) : Below B a z := h.grown hg hB hr
def AllE (L : List Sg) (y : World) (e : Ending) (z : World) : Prop := ∃ a c, e = .returned (.slice a (flatB L).length c) ∧ BCells z a (flatB L) ∧ (a = none → c = 0) ∧ Below y.heap.size y z
theorem owns_bslice {w : World} {B : Nat} {v : Value} {ss : List Bs} (h : w.ownsRow B 61 5 v ss.length (bcv ss)) : ∃ a c, v = .slice a ss.length c ∧ BCells w a ss ∧ (a = none → c = 0) := by
  obtain ⟨a, c, rfl, hb⟩ := owns_brow h
  refine ⟨a, c, rfl, hb, fun e => ?_⟩
  rcases h.2 with ⟨q, _⟩ | ⟨g, cap, cur, q, _⟩
  · simp only [Value.slice.injEq] at q; exact q.2.2
  · simp only [e, Value.slice.injEq] at q; cases q.1
set_option maxHeartbeats 1000000 in
set_option maxRecDepth 100000 in
theorem all_any {B p : Nat} {seg : Int} {r off cap : Nat} {L : List Sg} {y : World} (h : PIs B p seg r off cap L y) : Calls Try.prog 37 #[.pointer (some ⟨p, 0, none⟩)] y fun e z => AllE L y e z := by
  have HP : Hid (∀ z, Below y.heap.size y z → PIs B p seg r off cap L z) := fun z hb => h.below hb
  have hl := h.len
  have HL : Hid (∀ k, k ≤ L.length → (flatB (L.take k)).length ≤ k * 100) := fun k hk => flatB_len L (fun i hi => (h.seg i hi).len) k hk
  have HT : Hid (flatB (L.take L.length) = flatB L) := by show _ = _; rw [List.take_length]
  clear h
  go_enter Try.func37, Try.ntmps37
  go_wp2_with fail
  go_loopw [3, 4] (fun v i wr => ∃ k : Nat, k ≤ L.length ∧ i = .int .i64 k ∧ wr.ownsRow y.heap.size 61 5 v (flatB (L.take k)).length (bcv (flatB (L.take k))) ∧ Below y.heap.size y wr) (fun _ i _ => L.length - (intOf i).toNat)
  case atStart => exact ⟨0, by omega, rfl, World.ownsRow_nil _ _ _ _, Below.refl _ _⟩
  case round =>
    obtain ⟨k, hk, rfl, hown, hb⟩ := hrel
    have hp := HP.out wr hb
    obtain ⟨_, _, _, _, _, c5, _⟩ := hp.cells
    by_cases hlt : k < L.length
    · have hltI : (k : Int) < (L.length : Int) := by omega
      have hat := hp.at k hlt
      have hs := hp.seg k hlt
      have HLN := HL.out k hk
      have HSN : Hid (flatB (L.take (k + 1)) = flatB (L.take k) ++ (L.getD k sgz).ss) := flatB_snoc L k hlt
      generalize L.getD k sgz = s at *
      obtain ⟨s0, s1⟩ := hs.cells
      have hrow := hs.row
      have hnil := hs.nil
      have hsl := hs.len
      clear hp hs
      go_wp2_with (at_builtin; refine wpList_app_bats (by rfl) _ _ rfl y.heap.size _ (flatB (L.take k)) s.ss rfl hown hb.size _ _ _ rfl rfl hrow hnil (by omega) ?_; intro v' w' hown' hg' _)
      exact ⟨⟨k + 1, by omega, by go_num, by rw [HSN.out]; exact hown', own_bel' hb hb.size hg' (fun x hx => (hown.lt x hx).1)⟩, by simp [intOf]; omega⟩
    · obtain rfl : k = L.length := by omega
      go_wp2_with fail
      go_ret
      rw [HT.out] at hown
      obtain ⟨a, c, rfl, hc, hn⟩ := owns_bslice hown
      exact ⟨a, c, rfl, hc, hn, hb⟩
end Go.Proofs.Ytnnljdnaipjoiaa
