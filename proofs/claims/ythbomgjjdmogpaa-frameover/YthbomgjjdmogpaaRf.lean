/- Rows of bytes that came in, made frames one behind the other. -/
import Derived.Test.YthbomgjjdmogpaaZr
import Derived.Test.YthbomgjjdmogpaaOp
namespace Go.Proofs.Ythbomgjjdmogpaa
set_option linter.unusedSimpArgs false
set_option linter.unusedVariables false
open Go.RowKit
/-- Their bytes. -/
def wl (fs : List Fr) : List Nat := (fs.map fun f => wrp f.b).flatten
theorem wl_nil : wl [] = [] := rfl
theorem wl_app (a b : List Fr) : wl (a ++ b) = wl a ++ wl b := by simp [wl]
theorem wl_cons (f : Fr) (fs : List Fr) : wl (f :: fs) = wrp f.b ++ wl fs := rfl
theorem wl_one (f : Fr) : wl [f] = wrp f.b := by simp [wl]
/-- How many bytes they have. -/
def sl (fs : List Fr) : Nat := (fs.map fun f => f.b.length).sum
theorem sl_app (a b : List Fr) : sl (a ++ b) = sl a + sl b := by simp [sl]
theorem sl_one (f : Fr) : sl [f] = f.b.length := by simp [sl]
theorem wl_len (fs : List Fr) : (wl fs).length = 4 * fs.length + sl fs := by
  induction fs with
  | nil => rfl
  | cons f r ih =>
    rw [wl_cons, List.length_append, wrp_len, ih]
    simp [sl]
    omega
theorem sl_le {fs : List Fr} {n : Nat} (h : ∀ f, f ∈ fs → f.b.length ≤ n) : sl fs ≤ fs.length * n := by
  induction fs with
  | nil => simp [sl]
  | cons f r ih =>
    have h1 := h f (by simp)
    have h2 := ih (fun g hg => h g (by simp [hg]))
    have e : sl (f :: r) = f.b.length + sl r := by simp [sl]
    rw [e, List.length_cons, Nat.add_mul]
    omega
theorem le_sl {fs : List Fr} {f : Fr} (h : f ∈ fs) : f.b.length ≤ sl fs := by
  induction fs with
  | nil => simp at h
  | cons g r ih =>
    have e : sl (g :: r) = g.b.length + sl r := by simp [sl]
    rcases List.mem_cons.1 h with rfl | h
    · omega
    · have := ih h; omega
theorem take_next {fs : List Fr} {k : Nat} (h : k < fs.length) : fs.take (k + 1) = fs.take k ++ [fs.getD k frz] := by
  rw [List.take_succ_eq_append_getElem h]
  simp [List.getD, h]
theorem frames_wl (fs : List Fr) (t : List Nat) (h : ∀ f, f ∈ fs → f.b.length ≤ 8192) : frames (wl fs ++ t) = (fs.map (·.b) ++ (frames t).1, (frames t).2) := by
  induction fs with
  | nil => simp [wl_nil]
  | cons f r ih =>
    rw [wl_cons, List.append_assoc, frames_wrp f.b _ (h f (by simp)), ih (fun g hg => h g (by simp [hg]))]
    simp
theorem wl_lt {fs : List Fr} (h : ∀ f, f ∈ fs → ∀ i, f.b.getD i 0 < 256) : ∀ i, (wl fs).getD i 0 < 256 := by
  induction fs with
  | nil => intro i; simp [wl_nil]
  | cons f r ih =>
    rw [wl_cons]
    exact app_lt (wrp_lt (h f (by simp))) (ih (fun g hg => h g (by simp [hg])))
theorem FCells.below {w w' : World} {a : Option Addr} {fs : List Fr} (h : FCells w a fs) (hb : Below w.heap.size w w') : FCells w' a fs := by
  intro i hi
  obtain ⟨g, off, e, hc⟩ := h i hi
  exact ⟨g, off, e, by rw [hb.cell (World.block_lt_of_cell? _ _ hc)]; exact hc⟩
theorem getD_mem {fs : List Fr} {k : Nat} (h : k < fs.length) : fs.getD k frz ∈ fs := by
  simp only [List.getD, List.getElem?_eq_getElem h, Option.getD_some]
  exact List.getElem_mem h
/-- The row that holds the first k, made frames. -/
theorem wl_next {x : World} {B k : Nat} {v : Value} {fs : List Fr} (h : k < fs.length) (ho : x.ownsRow B 5 1 v ((wl (fs.take k)).length + (wrp (fs.getD k frz).b).length) (cv (wl (fs.take k)) ++ cv (wrp (fs.getD k frz).b))) : x.ownsRow B 5 1 v (wl (fs.take (k + 1))).length (cv (wl (fs.take (k + 1)))) := by
  rw [take_next h, wl_app, wl_one, List.length_append, cv_append]
  exact ho
theorem wpList_append_rowg {w : World} {ops : Array Oper} {rest : List Oper} {o : Oper} {a : Act} {Q : Exit → Act → World → Prop} (hw : Region.wanted o (yielded ops a.tmps) = true) (s x : Operand)
    (ho : o.op = .call { callee := .builtin .append, args := #[s, x], argTypes := #[23, 23] }) (B : Nat)
    (v : Value) (l : List Nat) (hs : a.eval s = v) (hown : w.ownsRow B 5 1 v l.length (cv l)) (hBs : B ≤ w.heap.size)
    (a' : Option Addr) (cap : Nat) (m : List Nat) (hx : a.eval x = .slice a' m.length cap) (hr : Row w a' m) (hn : a' = none → cap = 0) (h63 : l.length + m.length ≤ 1000000)
    (h : ∀ v' w', w'.ownsRow B 5 1 v' (l ++ m).length (cv (l ++ m)) → w.grownBy w' v.ownBlock → wpList Try.prog ops Q rest (a.put o.dst v') w') : wpList Try.prog ops Q (o :: rest) a w := by
  obtain ⟨i0, hi, hz0, hz1, hz2⟩ := info_parts Try.info5
  cases a' with
  | none =>
    obtain rfl := row_none hr
    obtain rfl := hn rfl
    refine BigFrame.wpList_want hw fun K hK => ?_
    have hrun := run_append_owned_none (P := Try.prog) (w := w) B 23 o.type 5 i0 1 Try.underlying23 hi v l.length (cv l) hown
    have h0 : wpList Try.prog ops Q rest (a.put o.dst v) w := h v w (by simpa using hown) (World.grownBy.refl _ _)
    unfold Oper.wp
    simp [execOp, ho, resolve, invoke, builtin, hs, hx, hrun, Result.andThen]
    exact hK _ _ h0
  | some ad =>
    refine BigFrame.wpList_want hw fun K hK => ?_
    refine wp_append_own w s x 23 ho B 5 i0 (.int .u8 0) 1 1 Try.underlying23 hi hz0 hz1 hz2 rfl (by decide) v l.length (cv l) hs hown ad m.length cap (cv m) hx (by rw [cv_length]; omega) (row_news hr) (cv_one _) (by unfold maxLen; omega) (by omega) hBs ?_
    intro v' w' h2 h3 _
    exact hK _ _ (h v' w' (by rw [List.length_append, cv_append]; exact h2) h3)
theorem owns_below {w w' : World} {B : Nat} {e : TypeId} {s : Nat} {v : Value} {n : Nat} {xs : List Value} (h : w.ownsRow B e s v n xs) (hb : Below w.heap.size w w') : w'.ownsRow B e s v n xs := (Keeps.of_below hb []).owns h (by simp)
/-- A row of one's own, to be fed. -/
theorem owns_ine {w : World} {B p : Nat} {v : Value} {l : List Nat} {hd : List Nat} {h : Nat} {u : Value} {sh : Bool} (ho : w.ownsRow B 5 1 v l.length (cv l)) (hl : ∀ i, l.getD i 0 < 256) (hb : FBox w p hd h u sh) (E : List Nat) (hE : ∀ x ∈ E, x = p) : ∃ a c, v = .slice a l.length c ∧ InE w E a c l := by
  have hne := row_box ho hb.box (by decide)
  rcases ho.2 with ⟨rfl, h0⟩ | ⟨g, cap, cur, rfl, hB, hg, hle, hm, _, _⟩
  · exact ⟨none, 0, by rw [h0], fun i hi => by omega, by omega, by unfold maxLen; omega, fun _ => rfl, fun hh => by omega⟩
  · refine ⟨_, cap, rfl, Own.row (B := B) (cap := cap) ho hl, hle, hm, (fun e => by cases e), fun _ x hx hm => ?_⟩
    injection hx with hx
    subst hx
    exact hne g rfl (hE _ hm)
end Go.Proofs.Ythbomgjjdmogpaa
