/- The region of changes: its laws. -/
import Derived.Test.YtmodjgailmpfmaaDoorLq
import Derived.Test.YtmodjgailmpfmaaDoorLat
namespace Go.Proofs.YtmodjgailmpfmaaDoor
set_option linter.unusedSimpArgs false
set_option linter.unusedVariables false
open Go.RowKit Go.MapKept Go.Proofs
theorem exec_load_row {P : Program} {o : Oper} {ev : Operand → Value} {w : World} (ty : TypeId) (x : Operand) (ho : o.op = .load ty x)
    (g : Nat) (hx : ev x = .pointer (some ⟨g, 0, none⟩)) (t : TypeId) (cs : Array Value) (fr : Nat × Nat) (d : TypeDesc) (hg : w.heap[g]? = some (.cells cs t fr))
    (hu : P.underlying ty = some d) (hd : (match d with | .struct _ | .array _ _ => true | _ => false) = true) (hi : (P.info? ty).map (·.size) = some cs.size) : (execOp ev o).run P w = .ok (.value (.agg cs)) w := by
  unfold execOp
  simp only [ho, hx, Instr.loadAt, Instr.sureAddr, Sem.run_bind, Sem.run_pure, Result.andThen_ok, run_loadVar_row w g t ty cs fr d hg hu hd hi]
/-- What changes leaves, with the equation in the open. -/
def ChgOut (w : World) (cl : List (Int × Int)) (st : List Int) (e : Ending) (w' : World) : Prop := ∃ v, e = .returned (.tuple #[v, .agg (av (csOf cl st).st)]) ∧ ChgPost w cl st e w'
theorem changes_out (la : Option Addr) (cap : Nat) (cl : List (Int × Int)) (st : List Int) (w : World) (hl : LRow w la cl) (hcl : cl.length ≤ 9223372036854775807) (hst : st.length = 30) :
    Calls Tryd.prog 17 #[.slice la cl.length cap, .agg (av st)] w (ChgOut w cl st) := (changes_any la cap cl st w hl hcl hst).mono (fun e w6 h => by obtain ⟨v, gs, rfl, _⟩ := id h; exact ⟨v, rfl, h⟩)
theorem ChgPost.bel {w w' : World} {cl : List (Int × Int)} {st : List Int} {e : Ending} (h : ChgPost w cl st e w') : Below w.heap.size w w' := by obtain ⟨v, gs, _, _, _, _, h⟩ := h; exact h
/-- The box first, the changes behind it. -/
theorem box_chg2 {B : Nat} {E : List Nat} {w4 w5 w6 : World} {j dp : Nat} {d : Dv} {T : List (List Nat)} {off : Bool} {cl : List (Int × Int)} {st : List Int} (hst : st.length = 30) {v x : Value} {Z : Array Value} (hF : Fr B E w4 w5) (hJ : JP B E w5 j dp d T off) (h6 : ChgPost (w5.alloc (.cells Z 30)) cl st (.returned (.tuple #[v, x])) w6) :
    x = .agg (av (csOf cl st).st) ∧ w6.heap[w5.heap.size]? = some (.cells Z 30 (0, 0)) ∧ ∃ E', (∀ y ∈ E, y ∈ E') ∧ w5.heap.size ∈ E' ∧ Fr B E' (w6.setRow w5.heap.size (av (csOf cl st).st)) (w6.setRow w5.heap.size (av (csOf cl st).st)) ∧ JP B E' (w6.setRow w5.heap.size (av (csOf cl st).st)) j dp d T off ∧ Chg E' (w6.setRow w5.heap.size (av (csOf cl st).st)) v (csOf cl st) ∧ (w6.setRow w5.heap.size (av (csOf cl st).st)).heap[w5.heap.size]? = some (.cells (av (csOf cl st).st) 30 (0, 0)) ∧ Below w5.heap.size w5 (w6.setRow w5.heap.size (av (csOf cl st).st)) := by
  obtain ⟨rfl, hb6, hv, Ex, hEx, hC⟩ := chg_of hst h6
  have b1 : Below w5.heap.size w5 (w5.alloc (.cells Z 30)) := (Below.refl _ _).alloc (Nat.le_refl _) _
  have e1 := heap_alloc_new w5 (.cells Z 30)
  have s1 : (w5.alloc (.cells Z 30)).heap.size = w5.heap.size + 1 := by show (w5.heap.push _).size = _; simp
  have hs6 := hb6.size
  have hx6 : w6.heap[w5.heap.size]? = some (.cells Z 30 (0, 0)) := (hb6.block _ (by omega)).trans e1
  have hb56 : Below w5.heap.size w5 w6 := b1.trans (hb6.mono (by omega))
  have k := keeps_setRow w6 w5.heap.size (av (csOf cl st).st)
  have hx8 : (w6.setRow w5.heap.size (av (csOf cl st).st)).heap[w5.heap.size]? = some (.cells (av (csOf cl st).st) 30 (0, 0)) := setRow_heap _ _ _ _ _ _ hx6
  have oth : ∀ y, y ≠ w5.heap.size → (w6.setRow w5.heap.size (av (csOf cl st).st)).heap[y]? = w6.heap[y]? := fun y hy => setRow_other _ _ _ _ hy
  have s8 : (w6.setRow w5.heap.size (av (csOf cl st).st)).heap.size = w6.heap.size := by simp
  have hb8 : Below w5.heap.size w5 (w6.setRow w5.heap.size (av (csOf cl st).st)) := hb56.trans ⟨rfl, rfl, rfl, by rw [s8]; exact Nat.le_refl _, fun y hy => oth y (by omega)⟩
  have hlt : ∀ y ∈ Ex ++ E, y < w6.heap.size ∧ y ≠ w5.heap.size := fun y hy => by
    rcases List.mem_append.1 hy with q | q
    · have := hEx y q; omega
    · have := hF.ltw y q; omega
  refine ⟨rfl, hx6, w5.heap.size :: (Ex ++ E), fun y hy => by simp [hy], by simp, (hF.below hb8).more (fun y hy => ?_), ((hJ.ext (fun y hy => ?_)).below hb56).keeps1 k (by simp), ((hC E).same (fun y hy => oth y (hlt y hy).2)).ext (fun y hy => List.mem_cons_of_mem _ hy), hx8, hb8⟩
  · rw [s8]
    rcases List.mem_cons.1 hy with rfl | hy
    · omega
    · exact (hlt y hy).1
  · rcases List.mem_cons.1 hy with rfl | hy
    · exact .inr (Nat.le_refl _)
    · rcases List.mem_append.1 hy with q | q
      · exact .inr (by have := (hEx y q).1; omega)
      · exact .inl q
theorem JS.commitB {B : Nat} {w wr w6 : World} {b : Nat} {st : List Int} {j dp M : Nat} (h : JS B w wr b st j dp M) (hM : M + 345 ≤ 1000000) {cl : List (Int × Int)} {v x : Value} {Z : Array Value} (h6 : ChgPost (wr.alloc (.cells Z 30)) cl st (.returned (.tuple #[v, x])) w6) :
    Calls Tryd.prog 18 #[.pointer (some ⟨j, 0, none⟩), v] (w6.setRow wr.heap.size (av (csOf cl st).st)) fun e w' => e = .returned (.int .i64 0) ∧ JM B w w' b wr.heap.size st (csOf cl st).st j dp (M + 345) := by
  obtain ⟨d, T, h1, h2, h3, h4, h5, hR, hn, hc, ho⟩ := h
  have hbl := (Array.getElem?_eq_some_iff.1 h3).1
  have hFb : Fr B [b] wr wr := h1.more (fun x hx => by simp at hx; omega)
  obtain ⟨rfl, hx6, E', hE1, hE2, hF8, hJ8, hC8, hx8, hb8⟩ := box_chg2 h4 hFb h5 h6
  have hok := csOk cl st h4
  refine (commitG hF8 hJ8 hR hn hC8 hok (by omega)).mono ?_
  rintro e w' ⟨c, rfl, q⟩
  rcases q with ⟨rfl, hF', d', T', hJ', hR', hx⟩ | ⟨rfl, hF', d', T', hJ', hS', hx, hcut⟩
  · refine ⟨rfl, d', T', (h1.below hb8).trans hF' (by simp), h2, ?_, h4, (hF'.same _ hE2).trans hx8, hok.stl, hJ'.ext (fun y hy => .inl (hE1 y hy)), hR', hx.n.trans hn, hx.cut.trans hc, by have := hx.ops; omega⟩
    rw [hF'.same b (hE1 b (by simp)), hb8.block b hbl]; exact h3
  · rw [hx.cut, hc] at hcut; cases hcut
/-- Nothing pending: a crash leaves all as it is. -/
theorem rest_crash0 {d : Dv} {s : Nat → List Nat} (h : Rest d [] s) (l : List Int) : Rest (d.crash l) [] s := by
  have hb : ∀ k, (d.crash l).base k = d.base k := fun k => by
    rcases crash_left d l k with e | e
    · exact e
    · rw [h.none k] at e; cases e
  exact ⟨⟨h.ph.n246, h.ph.good, (hb 0).trans h.ph.tab, rfl, fun k h1 h2 => ⟨(hb _).trans (h.ph.view k h1 h2).1, rfl⟩⟩, fun _ => rfl⟩
end Go.Proofs.YtmodjgailmpfmaaDoor
