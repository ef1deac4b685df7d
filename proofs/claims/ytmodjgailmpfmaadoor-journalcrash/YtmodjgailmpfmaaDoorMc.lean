/- Lat Ls Lt Lu Lv Wc in one text (wip/tools/merge4.py). -/
import Derived.Deep.RegionHeld3
import Derived.StillTail
import Derived.Test.YtmodjgailmpfmaaDoorLq
namespace Go.Proofs.YtmodjgailmpfmaaDoor
set_option linter.unusedSimpArgs false
set_option linter.unusedVariables false
section
variable {P : Program} {ops : Array Oper} {Q : Exit → Act → World → Prop} {md : Region.Mode} {S : World → Prop} {n : Nat}
/-- Whatever order; S behind every operation but those from number n on. -/
def Lat (P : Program) (md : Region.Mode) (ops : Array Oper) (Q : Exit → Act → World → Prop) (S : World → Prop) (n : Nat) : Nat → Array Bool → Act → World → Prop
  | 0, l, a, w => Region.ready md ops l = [] ∧ Q .normal a w
  | f + 1, l, a, w => (Region.ready md ops l = [] → Q .normal a w) ∧ ∀ i ∈ Region.ready md ops l, wpOp P ops Q i (fun a' w' => (i < n → S w') ∧ Lat P md ops Q S n f (l.setIfInBounds i true) a' w') a w
theorem Lat.any : ∀ (f : Nat) (l : Array Bool) (a : Act) (w : World), Lat P md ops Q S n f l a w → wpAny P md ops Q f l a w
  | 0, _, _, _, h => h
  | f + 1, _, _, _, h => ⟨h.1, fun i hi => wpOp_mono (fun a' w' h' => Lat.any f _ a' w' h'.2) (h.2 i hi)⟩
theorem Lat.first {i : Nat} {oi : Oper} {v : Value} (hi : ops[i]? = some oi) (hsel : ∀ (j : Nat) (o : Oper) cs b, ops[j]? = some o → o.op ≠ .select cs b)
    (hs : Region.sinkB md ops n = true) (hc : Region.chainB md ops n = true) (hn : n < ops.size) (hin : i < n) (hQ : ∀ c a w, Q (.panic c) (a.put oi.dst v) w → Q (.panic c) a w) (f : Nat) :
    ∀ (l : Array Bool) (a : Act) (w : World), HeadInv md ops n l → (∀ j oj, ops[j]? = some oj → j ≠ i → l.getD j true = false → (∀ e ∈ oj.after, Region.binds md e = true → e.on ≠ i) → oi.apart ops oj = true) →
      i ∈ Region.ready md ops l → YieldsIf P ops S oi v a → S w → Lat P md ops Q S n f (l.setIfInBounds i true) (a.put oi.dst v) w → Lat P md ops Q S n (f + 1) l a w := by
  induction f with
  | zero =>
    intro l a w inv hfree hr hy hS H
    refine ⟨fun h => absurd hr (by rw [h]; simp), fun j hj => ?_⟩
    by_cases hji : j = i
    · subst hji; exact hy.wpOp hi hS ⟨fun _ => hS, H⟩
    · exact absurd (ready_mono hj hji) (by rw [H.1]; simp)
  | succ f ih =>
    intro l a w inv hfree hr hy hS H
    refine ⟨fun h => absurd hr (by rw [h]; simp), fun j hj => ?_⟩
    have hun := (mem_ready.1 hr).1
    by_cases hji : j = i
    · subst hji; exact hy.wpOp hi hS ⟨fun _ => hS, H⟩
    have hjn : j < n := by
      rcases Nat.lt_or_ge j n with h | h
      · exact h
      · exact absurd hj (tail_waits hs hc hn inv _ i rfl hin hun j h)
    obtain ⟨hjun, oj, hoj, hall⟩ := mem_ready.1 hj
    have hnot : ∀ e ∈ oj.after, Region.binds md e = true → e.on ≠ i := fun e he hb heq => by
      have h1 := hall e he hb
      rw [heq, getD_both hun] at h1
      cases h1
    have h2 := wpOp_putIf hoj (hfree j oj hoj hji hjun hnot) (fun cs b => hsel i oi cs b hi) (fun cs b => hsel j oj cs b hoj) hQ hy (H.2 j (ready_mono hj hji))
    refine wpOp_mono (fun a' w' h3 => ⟨h3.2.1, ih _ a' w' (inv.set hj hjn) (fun k ok hk hki hun2 hno => hfree k ok hk hki ?_ hno) (ready_mono hr (Ne.symm hji)) h3.1 (h3.2.1 hjn) ?_⟩) h2
    · by_cases hjk : j = k
      · subst hjk; exact hjun
      · rw [getD_set_ne true hjk] at hun2; exact hun2
    · rw [Array.setIfInBounds_comm _ _ hji]
      exact h3.2.2
/-- The same, with what is listed closed. -/
def LatI (P : Program) (md : Region.Mode) (ops : Array Oper) (Q : Exit → Act → World → Prop) (S : World → Prop) (n f : Nat) (l : Array Bool) (a : Act) (w : World) : Prop := HeadInv md ops n l → Lat P md ops Q S n f l a w
theorem LatI.take {i : Nat} {oi : Oper} {v : Value} {f : Nat} {l : Array Bool} {a : Act} {w : World} (hi : ops[i]? = some oi) (hsel : Region.noSelect ops = true)
    (hs : (Region.sinkB md ops n && Region.chainB md ops n && decide (n < ops.size) && decide (i < n)) = true) (hf : Region.free md ops l i = true) (hr : (Region.ready md ops l).contains i = true)
    (hQ : ∀ c a w, Q (.panic c) (a.put oi.dst v) w → Q (.panic c) a w) (hy : YieldsIf P ops S oi v a) (hS : S w)
    (h : LatI P md ops Q S n f (l.setIfInBounds i true) (a.put oi.dst v) w) : LatI P md ops Q S n (f + 1) l a w := fun inv => by
  simp only [Bool.and_eq_true, decide_eq_true_eq] at hs
  obtain ⟨⟨⟨h1, h2⟩, h3⟩, h4⟩ := hs
  have hr' : i ∈ Region.ready md ops l := by simpa using hr
  exact Lat.first hi (Region.noSelect_spec hsel) h1 h2 h3 h4 hQ f l a w inv (Region.free_spec hi hf) hr' hy hS (h (inv.set hr' h4))
theorem LatI.one {i : Nat} {o : Oper} {f : Nat} {l : Array Bool} {a : Act} {w : World} (ho : ops[i]? = some o) (hr : Region.ready md ops l = [i]) (hin : i < n)
    (h : ∀ K : Act → World → Prop, Shut (∀ a w, S w → (S w → LatI P md ops Q S n f (l.setIfInBounds i true) a w) → K a w) → if Region.wanted o (yielded ops a.tmps) = true then Oper.wp P o a w K Q else K (a.put o.dst undef) w) :
    LatI P md ops Q S n (f + 1) l a w := fun inv => by
  refine ⟨fun h0 => absurd h0 (by rw [hr]; simp), fun j hj => ?_⟩
  rw [hr] at hj
  obtain rfl : j = i := by simpa using hj
  exact wpOp_step ho fun K hK => h K fun a w hS hW => hK a w ⟨fun _ => hS, hW hS (inv.set (by rw [hr]; simp) hin)⟩
/-- Two that are ready at once: either order. -/
theorem LatI.two {i j : Nat} {oi oj : Oper} {f : Nat} {l : Array Bool} {a : Act} {w : World} (hoi : ops[i]? = some oi) (hoj : ops[j]? = some oj) (hr : Region.ready md ops l = [i, j]) (hin : i < n) (hjn : j < n)
    (h1 : ∀ K : Act → World → Prop, Shut (∀ a w, S w → (S w → LatI P md ops Q S n f (l.setIfInBounds i true) a w) → K a w) → if Region.wanted oi (yielded ops a.tmps) = true then Oper.wp P oi a w K Q else K (a.put oi.dst undef) w)
    (h2 : ∀ K : Act → World → Prop, Shut (∀ a w, S w → (S w → LatI P md ops Q S n f (l.setIfInBounds j true) a w) → K a w) → if Region.wanted oj (yielded ops a.tmps) = true then Oper.wp P oj a w K Q else K (a.put oj.dst undef) w) :
    LatI P md ops Q S n (f + 1) l a w := fun inv => by
  refine ⟨fun h0 => absurd h0 (by rw [hr]; simp), fun k hk => ?_⟩
  have hk' := hk
  rw [hr] at hk
  rcases List.mem_cons.1 hk with rfl | hk
  · exact wpOp_step hoi fun K hK => h1 K fun a w hS hW => hK a w ⟨fun _ => hS, hW hS (inv.set hk' hin)⟩
  · obtain rfl : k = j := by simpa using hk
    exact wpOp_step hoj fun K hK => h2 K fun a w hS hW => hK a w ⟨fun _ => hS, hW hS (inv.set hk' hjn)⟩
theorem LatI.last {i : Nat} {o : Oper} {f : Nat} {l : Array Bool} {a : Act} {w : World} (ho : ops[i]? = some o) (hr : Region.ready md ops l = [i]) (hin : n ≤ i) (he : Region.ready md ops (l.setIfInBounds i true) = [])
    (h : ∀ K : Act → World → Prop, Shut (∀ a w, Q .normal a w → K a w) → if Region.wanted o (yielded ops a.tmps) = true then Oper.wp P o a w K Q else K (a.put o.dst undef) w) :
    LatI P md ops Q S n (f + 1) l a w := fun inv => by
  refine ⟨fun h0 => absurd h0 (by rw [hr]; simp), fun j hj => ?_⟩
  rw [hr] at hj
  obtain rfl : j = i := by simpa using hj
  refine wpOp_step ho fun K hK => h K fun a w hW => hK a w ⟨fun h => by omega, ?_⟩
  cases f with
  | zero => exact ⟨he, hW⟩
  | succ f => exact ⟨fun _ => hW, fun k hk => by rw [he] at hk; cases hk⟩
theorem wp_region_lat (S : World → Prop) (n : Nat) {id : Nat} {a : Act} {w : World} (hm : P.follows .mixedOrders = true) (hS : S w.drew) (h : S w.drew → LatI P .any ops Q S n ops.size (Array.replicate ops.size false) a w.drew) : (Code.region id ops true).wp P Q a w :=
  wp_region_any hm (Lat.any _ _ _ _ (h hS ⟨by simp, fun j oj _ hl => (by rw [getD_replicate_false] at hl; cases hl), fun t _ ht => getD_in (by simpa using ht) (getD_replicate_false _ _)⟩))
end
section
variable {P : Program} {L : List Oper} {Q : Exit → Act → World → Prop} {md : Region.Mode} {S : World → Prop} {n : Nat}
theorem drop_at {i : Nat} {o : Oper} {r : List Oper} (h : L.drop i = o :: r) : L.toArray[i]? = some o := by
  have : L[i]? = some o := by
    have h2 := congrArg (fun x => x[0]?) h
    simpa using h2
  simpa using this
theorem lat_take (i : Nat) {o : Oper} {r : List Oper} {v : Value} {f : Nat} {l : Array Bool} {a : Act} {w : World} (hi : L.drop i = o :: r) (hsel : Region.noSelect L.toArray = true)
    (hs : (Region.sinkB md L.toArray n && Region.chainB md L.toArray n && decide (n < L.toArray.size) && decide (i < n)) = true) (hf : Region.free md L.toArray l i = true) (hr : (Region.ready md L.toArray l).contains i = true)
    (hQ : ∀ c a w, Q (.panic c) (a.put o.dst v) w → Q (.panic c) a w) (hw : Region.wanted o (yielded L.toArray a.tmps) = true) (hy : ∀ w, S w → (execOp a.eval o).run P w = .ok (.value v) w) (hS : S w)
    (h : LatI P md L.toArray Q S n f (l.setIfInBounds i true) (a.put o.dst v) w) : LatI P md L.toArray Q S n (f + 1) l a w := LatI.take (drop_at hi) hsel hs hf hr hQ (.inl ⟨hw, hy⟩) hS h
theorem lat_one (i : Nat) {o : Oper} {r : List Oper} {f : Nat} {l : Array Bool} {a : Act} {w : World} (hi : L.drop i = o :: r) (hr : Region.ready md L.toArray l = [i]) (hin : i < n) (hw : Region.wanted o (yielded L.toArray a.tmps) = true)
    (h : ∀ K : Act → World → Prop, Shut (∀ a w, S w → (S w → LatI P md L.toArray Q S n f (l.setIfInBounds i true) a w) → K a w) → Oper.wp P o a w K Q) :
    LatI P md L.toArray Q S n (f + 1) l a w := LatI.one (drop_at hi) hr hin fun K hK => by rw [if_pos hw]; exact h K hK
theorem lat_two (i j : Nat) {oi oj : Oper} {ri rj : List Oper} {f : Nat} {l : Array Bool} {a : Act} {w : World} (hi : L.drop i = oi :: ri) (hj : L.drop j = oj :: rj) (hr : Region.ready md L.toArray l = [i, j]) (hin : i < n) (hjn : j < n) (hwi : Region.wanted oi (yielded L.toArray a.tmps) = true) (hwj : Region.wanted oj (yielded L.toArray a.tmps) = true)
    (h1 : ∀ K : Act → World → Prop, Shut (∀ a w, S w → (S w → LatI P md L.toArray Q S n f (l.setIfInBounds i true) a w) → K a w) → Oper.wp P oi a w K Q)
    (h2 : ∀ K : Act → World → Prop, Shut (∀ a w, S w → (S w → LatI P md L.toArray Q S n f (l.setIfInBounds j true) a w) → K a w) → Oper.wp P oj a w K Q) :
    LatI P md L.toArray Q S n (f + 1) l a w := LatI.two (drop_at hi) (drop_at hj) hr hin hjn (fun K hK => by rw [if_pos hwi]; exact h1 K hK) (fun K hK => by rw [if_pos hwj]; exact h2 K hK)
theorem lat_last (i : Nat) {o : Oper} {r : List Oper} {f : Nat} {l : Array Bool} {a : Act} {w : World} (hi : L.drop i = o :: r) (hr : Region.ready md L.toArray l = [i]) (hin : n ≤ i) (he : Region.ready md L.toArray (l.setIfInBounds i true) = []) (hw : Region.wanted o (yielded L.toArray a.tmps) = true)
    (h : ∀ K : Act → World → Prop, Shut (∀ a w, Q .normal a w → K a w) → Oper.wp P o a w K Q) :
    LatI P md L.toArray Q S n (f + 1) l a w := LatI.last (drop_at hi) hr hin he fun K hK => by rw [if_pos hw]; exact h K hK
end
end Go.Proofs.YtmodjgailmpfmaaDoor
namespace Go.Proofs.YtmodjgailmpfmaaDoor
set_option linter.unusedSimpArgs false
set_option linter.unusedVariables false
open Go.RowKit Go.MapKept Go.Proofs
theorem exec_load_row {P : Program} {o : Oper} {ev : Operand → Value} {w : World} (ty : TypeId) (x : Operand) (ho : o.op = .load ty x)
    (g : Nat) (hx : ev x = .pointer (some ⟨g, 0, none⟩)) (t : TypeId) (cs : Array Value) (fr : Nat × Nat) (d : TypeDesc) (hg : w.heap[g]? = some (.cells cs t fr))
    (hu : P.underlying ty = some d) (hd : (match d with | .struct _ | .array _ _ => true | _ => false) = true) (hi : (P.info? ty).map (·.size) = some cs.size) : (execOp ev o).run P w = .ok (.value (.agg cs)) w := by
  unfold execOp
  simp only [ho, hx, Instr.loadAt, Instr.sureAddr, Sem.run_bind, Sem.run_pure, Result.andThen_ok, run_loadVar_row w g t ty cs fr d hg hu hd hi]
/-- What changes leaves, with the equation in the open. -/
def ChgOut (w : World) (cl : List (Int × Int)) (st : List Int) (e : Ending) (w' : World) : Prop := ∃ v, e = .returned (.tuple #[v, .agg (av (csOf cl st).st)]) ∧ ChgPost w cl st e w'
theorem changes_out (la : Option Addr) (cap : Nat) (cl : List (Int × Int)) (st : List Int) (w : World) (hl : LRow w la cl) (hcl : cl.length ≤ 9223372036854775807) (hst : st.length = 30) :
    Calls Tryd.prog 17 #[.slice la cl.length cap, .agg (av st)] w (ChgOut w cl st) := (changes_any la cap cl st w hl hcl hst).mono (fun e w6 h => by obtain ⟨v, gs, rfl, _⟩ := id h; exact ⟨v, rfl, h⟩)
theorem ChgPost.bel {w w' : World} {cl : List (Int × Int)} {st : List Int} {e : Ending} (h : ChgPost w cl st e w') : Below w.heap.size w w' := by obtain ⟨v, gs, _, _, _, _, h⟩ := h; exact h
/-- The box first, the changes behind it. -/
theorem box_chg2 {B : Nat} {E : List Nat} {w4 w5 w6 : World} {j dp : Nat} {d : Dv} {T : List (List Nat)} {off : Bool} {cl : List (Int × Int)} {st : List Int} (hst : st.length = 30) {v x : Value} {Z : Array Value} (hF : Fr B E w4 w5) (hJ : JP B E w5 j dp d T off) (h6 : ChgPost (w5.alloc (.cells Z 30)) cl st (.returned (.tuple #[v, x])) w6) :
    x = .agg (av (csOf cl st).st) ∧ w6.heap[w5.heap.size]? = some (.cells Z 30 (0, 0)) ∧ ∃ E', (∀ y ∈ E, y ∈ E') ∧ w5.heap.size ∈ E' ∧ Fr B E' (w6.setRow w5.heap.size (av (csOf cl st).st)) (w6.setRow w5.heap.size (av (csOf cl st).st)) ∧ JP B E' (w6.setRow w5.heap.size (av (csOf cl st).st)) j dp d T off ∧ Chg E' (w6.setRow w5.heap.size (av (csOf cl st).st)) v (csOf cl st) ∧ (w6.setRow w5.heap.size (av (csOf cl st).st)).heap[w5.heap.size]? = some (.cells (av (csOf cl st).st) 30 (0, 0)) ∧ Below w5.heap.size w5 (w6.setRow w5.heap.size (av (csOf cl st).st)) := by
  obtain ⟨rfl, hb6, hv, Ex, hEx, hC⟩ := chg_of hst h6
  have b1 : Below w5.heap.size w5 (w5.alloc (.cells Z 30)) := (Below.refl _ _).alloc (Nat.le_refl _) _
  have e1 := heap_alloc_new w5 (.cells Z 30)
  have s1 : (w5.alloc (.cells Z 30)).heap.size = w5.heap.size + 1 := by show (w5.heap.push _).size = _; simp
  have hs6 := hb6.size
  have hx6 : w6.heap[w5.heap.size]? = some (.cells Z 30 (0, 0)) := (hb6.block _ (by omega)).trans e1
  have hb56 : Below w5.heap.size w5 w6 := b1.trans (hb6.mono (by omega))
  have k := keeps_setRow w6 w5.heap.size (av (csOf cl st).st)
  have hx8 : (w6.setRow w5.heap.size (av (csOf cl st).st)).heap[w5.heap.size]? = some (.cells (av (csOf cl st).st) 30 (0, 0)) := setRow_heap _ _ _ _ _ _ hx6
  have oth : ∀ y, y ≠ w5.heap.size → (w6.setRow w5.heap.size (av (csOf cl st).st)).heap[y]? = w6.heap[y]? := fun y hy => setRow_other _ _ _ _ hy
  have s8 : (w6.setRow w5.heap.size (av (csOf cl st).st)).heap.size = w6.heap.size := by simp
  have hb8 : Below w5.heap.size w5 (w6.setRow w5.heap.size (av (csOf cl st).st)) := hb56.trans ⟨rfl, rfl, rfl, by rw [s8]; exact Nat.le_refl _, fun y hy => oth y (by omega)⟩
  have hlt : ∀ y ∈ Ex ++ E, y < w6.heap.size ∧ y ≠ w5.heap.size := fun y hy => by
    rcases List.mem_append.1 hy with q | q
    · have := hEx y q; omega
    · have := hF.ltw y q; omega
  refine ⟨rfl, hx6, w5.heap.size :: (Ex ++ E), fun y hy => by simp [hy], by simp, (hF.below hb8).more (fun y hy => ?_), ((hJ.ext (fun y hy => ?_)).below hb56).keeps1 k (by simp), ((hC E).same (fun y hy => oth y (hlt y hy).2)).ext (fun y hy => List.mem_cons_of_mem _ hy), hx8, hb8⟩
  · rw [s8]
    rcases List.mem_cons.1 hy with rfl | hy
    · omega
    · exact (hlt y hy).1
  · rcases List.mem_cons.1 hy with rfl | hy
    · exact .inr (Nat.le_refl _)
    · rcases List.mem_append.1 hy with q | q
      · exact .inr (by have := (hEx y q).1; omega)
      · exact .inl q
theorem JS.commitB {B : Nat} {w wr w6 : World} {b : Nat} {st : List Int} {j dp M : Nat} (h : JS B w wr b st j dp M) (hM : M + 345 ≤ 1000000) {cl : List (Int × Int)} {v x : Value} {Z : Array Value} (h6 : ChgPost (wr.alloc (.cells Z 30)) cl st (.returned (.tuple #[v, x])) w6) :
    Calls Tryd.prog 18 #[.pointer (some ⟨j, 0, none⟩), v] (w6.setRow wr.heap.size (av (csOf cl st).st)) fun e w' => e = .returned (.int .i64 0) ∧ JM B w w' b wr.heap.size st (csOf cl st).st j dp (M + 345) := by
  obtain ⟨d, T, h1, h2, h3, h4, h5, hR, hn, hc, ho⟩ := h
  have hbl := (Array.getElem?_eq_some_iff.1 h3).1
  have hFb : Fr B [b] wr wr := h1.more (fun x hx => by simp at hx; omega)
  obtain ⟨rfl, hx6, E', hE1, hE2, hF8, hJ8, hC8, hx8, hb8⟩ := box_chg2 h4 hFb h5 h6
  have hok := csOk cl st h4
  refine (commitG hF8 hJ8 hR hn hC8 hok (by omega)).mono ?_
  rintro e w' ⟨c, rfl, q⟩
  rcases q with ⟨rfl, hF', d', T', hJ', hR', hx⟩ | ⟨rfl, hF', d', T', hJ', hS', hx, hcut⟩
  · refine ⟨rfl, d', T', (h1.below hb8).trans hF' (by simp), h2, ?_, h4, (hF'.same _ hE2).trans hx8, hok.stl, hJ'.ext (fun y hy => .inl (hE1 y hy)), hR', hx.n.trans hn, hx.cut.trans hc, by have := hx.ops; omega⟩
    rw [hF'.same b (hE1 b (by simp)), hb8.block b hbl]; exact h3
  · rw [hx.cut, hc] at hcut; cases hcut
/-- Nothing pending: a crash leaves all as it is. -/
theorem rest_crash0 {d : Dv} {s : Nat → List Nat} (h : Rest d [] s) (l : List Int) : Rest (d.crash l) [] s := by
  have hb : ∀ k, (d.crash l).base k = d.base k := fun k => by
    rcases crash_left d l k with e | e
    · exact e
    · rw [h.none k] at e; cases e
  exact ⟨⟨h.ph.n246, h.ph.good, (hb 0).trans h.ph.tab, rfl, fun k h1 h2 => ⟨(hb _).trans (h.ph.view k h1 h2).1, rfl⟩⟩, fun _ => rfl⟩
end Go.Proofs.YtmodjgailmpfmaaDoor
namespace Go.Proofs.YtmodjgailmpfmaaDoor
set_option linter.unusedSimpArgs false
set_option linter.unusedVariables false
open Go.RowKit Go.MapKept Go.Proofs
/-- As JS, whatever the cut. -/
def JC (B : Nat) (w wr : World) (b : Nat) (st : List Int) (j dp M : Nat) : Prop :=
  ∃ d T, Fr B [] w wr ∧ B ≤ b ∧ wr.heap[b]? = some (.cells (av st) 30 (0, 0)) ∧ st.length = 30 ∧ JP B [b] wr j dp d T false ∧ Rest d T (absS st) ∧ d.n = 275 ∧ d.ops ≤ M
theorem JC.below {B : Nat} {w wr w' : World} {b : Nat} {st : List Int} {j dp M : Nat} (h : JC B w wr b st j dp M) (hb : Below wr.heap.size wr w') : JC B w w' b st j dp M := by
  obtain ⟨d, T, h1, h2, h3, h4, h5, h6⟩ := h
  exact ⟨d, T, h1.below hb, h2, (hb.block b (Array.getElem?_eq_some_iff.1 h3).1).trans h3, h4, h5.below hb, h6⟩
theorem JC.fr {B : Nat} {w wr : World} {b : Nat} {st : List Int} {j dp M : Nat} (h : JC B w wr b st j dp M) : Fr B [] w wr := by obtain ⟨d, T, h1, _⟩ := h; exact h1
theorem JC.box {B : Nat} {w wr : World} {b : Nat} {st : List Int} {j dp M : Nat} (h : JC B w wr b st j dp M) : wr.heap[b]? = some (.cells (av st) 30 (0, 0)) := by obtain ⟨d, T, _, _, h1, _⟩ := h; exact h1
theorem JC.len {B : Nat} {w wr : World} {b : Nat} {st : List Int} {j dp M : Nat} (h : JC B w wr b st j dp M) : st.length = 30 := by obtain ⟨d, T, _, _, _, h1, _⟩ := h; exact h1
theorem JC.mono {B : Nat} {w wr : World} {b : Nat} {st : List Int} {j dp M M' : Nat} (h : JC B w wr b st j dp M) (hM : M ≤ M') : JC B w wr b st j dp M' := by
  obtain ⟨d, T, h1, h2, h3, h4, h5, h6, h7, h8⟩ := h
  exact ⟨d, T, h1, h2, h3, h4, h5, h6, h7, by omega⟩
/-- Behind a commit that was answered. -/
def JCM (B : Nat) (w wr : World) (b b2 : Nat) (st st2 : List Int) (j dp M : Nat) : Prop :=
  ∃ d T, Fr B [] w wr ∧ B ≤ b ∧ wr.heap[b]? = some (.cells (av st) 30 (0, 0)) ∧ st.length = 30 ∧ wr.heap[b2]? = some (.cells (av st2) 30 (0, 0)) ∧ st2.length = 30 ∧ JP B [b] wr j dp d T false ∧ Rest d T (absS st2) ∧ d.n = 275 ∧ d.ops ≤ M
theorem JCM.box {B : Nat} {w wr : World} {b b2 : Nat} {st st2 : List Int} {j dp M : Nat} (h : JCM B w wr b b2 st st2 j dp M) : wr.heap[b]? = some (.cells (av st) 30 (0, 0)) ∧ wr.heap[b2]? = some (.cells (av st2) 30 (0, 0)) := by
  obtain ⟨d, T, _, _, h1, h2, h3, h4, _⟩ := h; exact ⟨h1, h3⟩
theorem JCM.store {B : Nat} {w wr : World} {b b2 : Nat} {st st2 : List Int} {j dp M : Nat} (h : JCM B w wr b b2 st st2 j dp M) : JC B w (wr.setRow b (av st2)) b st2 j dp M := by
  obtain ⟨d, T, h1, h2, h3, h4, h5, h6, h7, h8, h9⟩ := h
  have k := keeps_setRow wr b (av st2)
  exact ⟨d, T, h1.keeps k (fun x hx => by simp at hx; subst hx; exact ⟨h2, by simp⟩), h2, setRow_heap _ _ _ _ _ _ h3, h6, h7.keeps1 k (by simp), h8, h9⟩
/-- The power went within it. -/
def JX (B : Nat) (w wr : World) (b b2 : Nat) (st st2 : List Int) (dp : Nat) : Prop :=
  ∃ d, Fr B [] w wr ∧ wr.heap[b]? = some (.cells (av st) 30 (0, 0)) ∧ st.length = 30 ∧ wr.heap[b2]? = some (.cells (av st2) 30 (0, 0)) ∧ st2.length = 30 ∧ DP B [b2, b] wr dp d ∧ Safe d (absS st) (absS st2) ∧ d.n = 275
def JCAns (B : Nat) (w : World) (b b2 : Nat) (st st2 : List Int) (j dp M : Nat) (e : Ending) (w' : World) : Prop :=
  (e = .returned (.int .i64 0) ∧ JCM B w w' b b2 st st2 j dp M) ∨ (e = .returned (.int .i64 9) ∧ JX B w w' b b2 st st2 dp)
theorem JC.core {B : Nat} {w wr w8 : World} {b b2 : Nat} {st : List Int} {j dp M : Nat} {d : Dv} {T : List (List Nat)} {E' : List Nat} {v : Value} {c : Cs} (h1 : Fr B [] w wr) (h2 : B ≤ b) (h3 : wr.heap[b]? = some (.cells (av st) 30 (0, 0))) (h4 : st.length = 30) (hR : Rest d T (absS st)) (hn : d.n = 275) (ho : d.ops ≤ M) (hM : M + 345 ≤ 1000000) (hok : CsOk c st)
    (hE1 : b ∈ E') (hE2 : b2 ∈ E') (hF8 : Fr B E' w8 w8) (hJ8 : JP B E' w8 j dp d T false) (hC8 : Chg E' w8 v c) (hx8 : w8.heap[b2]? = some (.cells (av c.st) 30 (0, 0))) (hb8 : Below wr.heap.size wr w8) :
    Calls Tryd.prog 18 #[.pointer (some ⟨j, 0, none⟩), v] w8 (JCAns B w b b2 st c.st j dp (M + 345)) := by
  have hbl := (Array.getElem?_eq_some_iff.1 h3).1
  refine (commitG hF8 hJ8 hR hn hC8 hok (by omega)).mono ?_
  rintro e w' ⟨cc, rfl, q⟩
  have hbx : ∀ w', Fr B E' w8 w' → w'.heap[b]? = some (.cells (av st) 30 (0, 0)) := fun w' hF' => by rw [hF'.same b hE1, hb8.block b hbl]; exact h3
  rcases q with ⟨rfl, hF', d', T', hJ', hR', hx⟩ | ⟨rfl, hF', d', T', hJ', hS', hx, hcut⟩
  · exact .inl ⟨rfl, d', T', (h1.below hb8).trans hF' (by simp), h2, hbx w' hF', h4, (hF'.same _ hE2).trans hx8, hok.stl, hJ'.ext (fun y hy => .inl (by simp at hy; subst hy; exact hE1)), hR', hx.n.trans hn, by have := hx.ops; omega⟩
  · exact .inr ⟨rfl, d', (h1.below hb8).trans hF' (by simp), hbx w' hF', h4, (hF'.same _ hE2).trans hx8, hok.stl, hJ'.dev.ext (fun y hy => .inl (by simp at hy; rcases hy with rfl | rfl; exact hE2; exact hE1)), hS', hx.n.trans hn⟩
theorem JC.commit {B : Nat} {w wr w6 : World} {b : Nat} {st : List Int} {j dp M : Nat} (h : JC B w wr b st j dp M) (hM : M + 345 ≤ 1000000) {cl : List (Int × Int)} {v x : Value} (h6 : ChgPost wr cl st (.returned (.tuple #[v, x])) w6) (Z : Array Value) :
    Calls Tryd.prog 18 #[.pointer (some ⟨j, 0, none⟩), v] ((w6.alloc (.cells Z 30)).setRow w6.heap.size (av (csOf cl st).st)) (JCAns B w b w6.heap.size st (csOf cl st).st j dp (M + 345)) := by
  obtain ⟨d, T, h1, h2, h3, h4, h5, hR, hn, ho⟩ := h
  have hbl := (Array.getElem?_eq_some_iff.1 h3).1
  have hFb : Fr B [b] wr wr := h1.more (fun x hx => by simp at hx; omega)
  obtain ⟨rfl, hv, E', hE1, hE2, hF8, hJ8, hC8, hx8, hb8⟩ := box_chg h4 hFb h5 h6 Z
  exact JC.core h1 h2 h3 h4 hR hn ho hM (csOk cl st h4) (hE1 b (by simp)) hE2 hF8 hJ8 hC8 hx8 hb8
theorem JC.commitB {B : Nat} {w wr w6 : World} {b : Nat} {st : List Int} {j dp M : Nat} (h : JC B w wr b st j dp M) (hM : M + 345 ≤ 1000000) {cl : List (Int × Int)} {v x : Value} {Z : Array Value} (h6 : ChgPost (wr.alloc (.cells Z 30)) cl st (.returned (.tuple #[v, x])) w6) :
    Calls Tryd.prog 18 #[.pointer (some ⟨j, 0, none⟩), v] (w6.setRow wr.heap.size (av (csOf cl st).st)) (JCAns B w b wr.heap.size st (csOf cl st).st j dp (M + 345)) := by
  obtain ⟨d, T, h1, h2, h3, h4, h5, hR, hn, ho⟩ := h
  have hbl := (Array.getElem?_eq_some_iff.1 h3).1
  have hFb : Fr B [b] wr wr := h1.more (fun x hx => by simp at hx; omega)
  obtain ⟨rfl, hx6, E', hE1, hE2, hF8, hJ8, hC8, hx8, hb8⟩ := box_chg2 h4 hFb h5 h6
  exact JC.core h1 h2 h3 h4 hR hn ho hM (csOk cl st h4) (hE1 b (by simp)) hE2 hF8 hJ8 hC8 hx8 hb8
/-- A journal just made, its device cut, then the box. -/
theorem JC.cut {B : Nat} {w w3 : World} {j dp : Nat} {d : Dv} (hF : Fr B [] w w3) (hJ : JP B [] w3 j dp d [] false) (hR : Rest d [] zs0) (hn : d.n = 275) (ho : d.ops ≤ 3) (k : Int) (hk : k ≤ 9223372036854775807) :
    Calls Tryd.prog 30 #[.pointer (some ⟨dp, 0, none⟩), .int .i64 k] w3 fun e w' => (∃ v, e = .returned v) ∧ JC B w (w'.alloc (.cells (av z30) 30)) w'.heap.size z30 j dp 3 := by
  refine (cutJ hF hJ k hk).mono ?_
  rintro e w' ⟨q1, q2, q3⟩
  obtain ⟨g1, g2, g3, g4⟩ := box_z q2 q3
  exact ⟨q1, d.cutAt k, [], g3, Nat.le_trans q2.big q2.size, g4, z30_len, g2, rest_z30 ((Like.cutAt d k).rest hR), hn, ho⟩
/-- Two journals, the one's device left by the other's. -/
def TW (B : Nat) (w wr : World) (j1 j2 : Nat) (s : Nat → List Nat) : Prop :=
  Fr B [] w wr ∧ (∃ dp d T, JP B [] wr j1 dp d T false ∧ Rest d T s ∧ d.n = 275) ∧ ∃ dp d T, JP B [] wr j2 dp d T false ∧ Rest d T s ∧ d.n = 275
theorem TW.below {B : Nat} {w wr w' : World} {j1 j2 : Nat} {s : Nat → List Nat} (h : TW B w wr j1 j2 s) (hb : Below wr.heap.size wr w') : TW B w w' j1 j2 s := by
  obtain ⟨h1, ⟨dp, d, T, h2, h3⟩, dp', d', T', h4, h5⟩ := h
  exact ⟨h1.below hb, ⟨dp, d, T, h2.below hb, h3⟩, dp', d', T', h4.below hb, h5⟩
def OneAt (B : Nat) (w wr : World) (dp j1 : Nat) (s : Nat → List Nat) : Prop := Fr B [] w wr ∧ ∃ d T, JP B [] wr j1 dp d T false ∧ Rest d T s ∧ d.n = 275
theorem OneAt.again {B : Nat} {w wr : World} {dp j1 : Nat} {s : Nat → List Nat} (h : OneAt B w wr dp j1 s) (a : Option Addr) (l : List Int) (cap : Nat) (hl : RowI wr a l) (hll : l.length ≤ 9223372036854775807) :
    Calls Tryd.prog 29 #[.pointer (some ⟨dp, 0, none⟩), .slice a l.length cap] wr fun e w' => ∃ c, e = .returned (.pointer (some ⟨c, 0, none⟩)) ∧ Calls Tryd.prog 31 #[.pointer (some ⟨c, 0, none⟩), .slice none 0 0, .slice none 0 0] w' fun e w'' => ∃ dp2 j2, e = .returned (.tuple #[.pointer (some ⟨dp2, 0, none⟩), .pointer (some ⟨j2, 0, none⟩), .bool true]) ∧ TW B w w'' j1 j2 s := by
  obtain ⟨hF, d, T, ⟨FP, hJo, hFP⟩, hR, hn⟩ := h
  have hFw : Fr B (FP ++ []) wr wr := hF.withJ hJo
  obtain ⟨F, lb, hFPe, hd, hj, x1, x2⟩ := id hJo
  refine (crashG hFw hd a l cap hl hll).mono ?_
  rintro e w' ⟨c, rfl, g1, g2, gb⟩
  obtain ⟨T', hR'⟩ := hR.crash l
  refine ⟨c, rfl, (opened_any g1 g2 hR' rfl rfl none none 0 0 [] [] (fun _ _ => RowI.nil _ _) (fun _ _ => RowI.nil _ _) (by simp) (by simp)).mono ?_⟩
  rintro e w'' ⟨dp', j', d', T'', rfl, q1, q2, q3, q4, q5, q6⟩
  exact ⟨dp', j', rfl, hF.trans q1 (by simp), ⟨dp, d, T, JP.same hJo hFP (fun x hx => q1.same x (by simp [hx])), hR, hn⟩, dp', d', T'', q2.ext (fun x hx => by simp at hx), q3, q4.trans hn⟩
/-- What a crash leaves of either, opened. -/
def OneOpen (B : Nat) (w : World) (s : Nat → List Nat) (e : Ending) (w' : World) : Prop := ∃ dp j1, e = .returned (.tuple #[.pointer (some ⟨dp, 0, none⟩), .pointer (some ⟨j1, 0, none⟩), .bool true]) ∧ OneAt B w w' dp j1 s
theorem one_open {B : Nat} {w wr : World} {c : Nat} {d : Dv} {T : List (List Nat)} {s : Nat → List Nat} (hF : Fr B [] w wr) (hD : DP B [] wr c d) (hR : Rest d T s) (hn : d.n = 275) (hc : d.cut = false) (ho : d.ops = 0) :
    Calls Tryd.prog 31 #[.pointer (some ⟨c, 0, none⟩), .slice none 0 0, .slice none 0 0] wr (OneOpen B w s) := by
  refine (opened_any hF hD hR hc ho none none 0 0 [] [] (fun _ _ => RowI.nil _ _) (fun _ _ => RowI.nil _ _) (by simp) (by simp)).mono ?_
  rintro e w'' ⟨dp', j', d', T'', rfl, q1, q2, q3, q4, q5, q6⟩
  exact ⟨dp', j', rfl, q1, d', T'', q2, q3, q4.trans hn⟩
def Gone (B : Nat) (w wr : World) (dp : Nat) : Prop := ∃ d s t, Fr B [] w wr ∧ DP B [] wr dp d ∧ Safe d s t ∧ d.n = 275
theorem JC.gone {B : Nat} {w wr : World} {b : Nat} {st : List Int} {j dp M : Nat} (h : JC B w wr b st j dp M) : Gone B w wr dp := by
  obtain ⟨d, T, h1, h2, h3, h4, h5, h6, h7, h8⟩ := h
  exact ⟨d, absS st, absS st, h1, h5.dev.ext (fun x hx => by simp at hx), h6.safe _, h7⟩
theorem JX.gone {B : Nat} {w wr : World} {b b2 : Nat} {st st2 : List Int} {dp : Nat} (h : JX B w wr b b2 st st2 dp) : Gone B w wr dp := by
  obtain ⟨d, h1, _, _, _, _, h5, h6, h7⟩ := h
  exact ⟨d, _, _, h1, h5.ext (fun x hx => by simp at hx), h6, h7⟩
theorem Gone.crash {B : Nat} {w wr : World} {dp : Nat} (h : Gone B w wr dp) (a : Option Addr) (l : List Int) (cap : Nat) (hl : RowI wr a l) (hll : l.length ≤ 9223372036854775807) :
    Calls Tryd.prog 29 #[.pointer (some ⟨dp, 0, none⟩), .slice a l.length cap] wr fun e w' => ∃ c s, e = .returned (.pointer (some ⟨c, 0, none⟩)) ∧ Calls Tryd.prog 31 #[.pointer (some ⟨c, 0, none⟩), .slice none 0 0, .slice none 0 0] w' (OneOpen B w s) := by
  obtain ⟨d, s, t, hF, hD, hS, hn⟩ := h
  refine (crashF hF hD a l cap hl hll).mono ?_
  rintro e w' ⟨c, rfl, g1, g2, _⟩
  rcases hS.crash (by omega) l with ⟨T, hR⟩ | ⟨T, hR⟩
  · exact ⟨c, s, rfl, one_open g1 g2 hR hn rfl rfl⟩
  · exact ⟨c, t, rfl, one_open g1 g2 hR hn rfl rfl⟩
theorem TW.read {B : Nat} {w wr : World} {j1 j2 : Nat} {s : Nat → List Nat} (h : TW B w wr j1 j2 s) (x : Nat) (hx : x < 30) (jj : Nat) (hj : jj = j1 ∨ jj = j2) :
    Calls Tryd.prog 26 #[.pointer (some ⟨jj, 0, none⟩), .int .i64 (245 + (x : Int))] wr fun e w' => ∃ g, e = .returned (.tuple #[.slice (some ⟨g, 0, none⟩) 512 512, .int .i64 0]) ∧ Full w' g 81 (s (245 + x)) ∧ Below wr.heap.size wr w' := by
  obtain ⟨h1, ⟨dp, d, T, h2, h3, h3n⟩, dp', d', T', h4, h5, h5n⟩ := h
  rcases hj with rfl | rfl
  · have := readJ h2 h3 (245 + x) (by omega) (by omega)
    rw [show ((245 + x : Nat) : Int) = 245 + (x : Int) by omega] at this
    exact this.mono (fun e w' q => by obtain ⟨g, e, a, _, b⟩ := q; exact ⟨g, e, a, b⟩)
  · have := readJ h4 h5 (245 + x) (by omega) (by omega)
    rw [show ((245 + x : Nat) : Int) = 245 + (x : Int) by omega] at this
    exact this.mono (fun e w' q => by obtain ⟨g, e, a, _, b⟩ := q; exact ⟨g, e, a, b⟩)
theorem TW.slt {B : Nat} {w wr : World} {j1 j2 : Nat} {s : Nat → List Nat} (h : TW B w wr j1 j2 s) (x : Nat) (hx : x < 30) : (s (245 + x)).length = 512 ∧ ∀ i, (s (245 + x)).getD i 0 < 256 := by
  obtain ⟨h1, ⟨dp, d, T, h2, h3, h3n⟩, _⟩ := h
  exact h3.slt h2.ok (by omega) (by omega)
end Go.Proofs.YtmodjgailmpfmaaDoor
namespace Go.Proofs.YtmodjgailmpfmaaDoor
set_option linter.unusedSimpArgs false
set_option linter.unusedVariables false
open Go.RowKit Go.MapKept Go.Proofs
def Bx (w : World) (b : Nat) (st : List Int) : Prop := w.heap[b]? = some (.cells (av st) 30 (0, 0))
theorem Bx.lt {w : World} {b : Nat} {st : List Int} (h : Bx w b st) : b < w.heap.size := (Array.getElem?_eq_some_iff.1 h).1
theorem Bx.below {w w' : World} {b : Nat} {st : List Int} (h : Bx w b st) (hb : Below w.heap.size w w') : Bx w' b st := (hb.block b h.lt).trans h
theorem Bx.set {w : World} {b : Nat} {st : List Int} (h : Bx w b st) (t : List Int) : Bx (w.setRow b (av t)) b t := setRow_heap _ _ _ _ _ _ h
theorem Bx.oth {w : World} {b c : Nat} {st : List Int} (h : Bx w b st) (hne : b ≠ c) (A : Array Value) : Bx (w.setRow c A) b st := (setRow_other _ _ _ _ hne).trans h
/-- The journal at rest. -/
def JE (B : Nat) (E : List Nat) (w : World) (j dp : Nat) (st : List Int) (M : Nat) : Prop := ∃ d T, JP B E w j dp d T false ∧ Rest d T (absS st) ∧ d.n = 275 ∧ d.ops ≤ M
/-- The power is gone. -/
def DX (B : Nat) (E : List Nat) (w : World) (dp : Nat) (st st2 : List Int) : Prop := ∃ d, DP B E w dp d ∧ Safe d (absS st) (absS st2) ∧ d.n = 275
theorem JE.below {B : Nat} {E : List Nat} {w w' : World} {j dp : Nat} {st : List Int} {M : Nat} (h : JE B E w j dp st M) (hb : Below w.heap.size w w') : JE B E w' j dp st M := by
  obtain ⟨d, T, h1, h2⟩ := h; exact ⟨d, T, h1.below hb, h2⟩
theorem JE.set {B : Nat} {E : List Nat} {w : World} {j dp : Nat} {st : List Int} {M b : Nat} (h : JE B E w j dp st M) (hb : b ∈ E) (A : Array Value) : JE B E (w.setRow b A) j dp st M := by
  obtain ⟨d, T, h1, h2⟩ := h; exact ⟨d, T, h1.keeps1 (keeps_setRow w b A) hb, h2⟩
theorem JE.ext {B : Nat} {E E' : List Nat} {w : World} {j dp : Nat} {st : List Int} {M : Nat} (h : JE B E w j dp st M) (hE : ∀ x ∈ E', x ∈ E ∨ w.heap.size ≤ x) : JE B E' w j dp st M := by
  obtain ⟨d, T, h1, h2⟩ := h; exact ⟨d, T, h1.ext hE, h2⟩
theorem DP.keeps1 {B : Nat} {E : List Nat} {w w' : World} {dp g : Nat} {d : Dv} (h : DP B E w dp d) (k : Keeps [g] w w') (hg : g ∈ E) : DP B E w' dp d := by
  obtain ⟨F, hd, hFP⟩ := h
  exact ⟨F, hd.same (fun x hx => k.block x (hd.lt x hx) (by simp; rintro rfl; exact (hFP x hx).2 hg)), hFP⟩
theorem DX.set {B : Nat} {E : List Nat} {w : World} {dp : Nat} {st st2 : List Int} {b : Nat} (h : DX B E w dp st st2) (hb : b ∈ E) (A : Array Value) : DX B E (w.setRow b A) dp st st2 := by
  obtain ⟨d, h1, h2⟩ := h; exact ⟨d, h1.keeps1 (keeps_setRow w b A) hb, h2⟩
theorem Fr.set {B : Nat} {w wr : World} {b : Nat} (h : Fr B [] w wr) (hb : B ≤ b) (A : Array Value) : Fr B [] w (wr.setRow b A) := h.keeps (keeps_setRow wr b A) (fun x hx => by simp at hx; subst hx; exact ⟨hb, by simp⟩)
/-- What an answer leaves, in the blocks E. -/
def CAns (B : Nat) (E : List Nat) (w w8 : World) (j dp : Nat) (st st2 : List Int) (M : Nat) (e : Ending) (w' : World) : Prop :=
  Fr B [] w w' ∧ (∀ x ∈ E, w'.heap[x]? = w8.heap[x]?) ∧ ((e = .returned (.int .i64 0) ∧ JE B E w' j dp st2 M) ∨ (e = .returned (.int .i64 9) ∧ DX B E w' dp st st2))
theorem CAns.bx {B : Nat} {E : List Nat} {w w8 w' : World} {j dp : Nat} {st st2 : List Int} {M : Nat} {e : Ending} (h : CAns B E w w8 j dp st st2 M e w') {b : Nat} (hb : b ∈ E) {s : List Int} (hx : Bx w8 b s) : Bx w' b s := (h.2.1 b hb).trans hx
theorem sync_c {B : Nat} {E : List Nat} {w wr : World} {j dp : Nat} {st : List Int} {M : Nat} (hF : Fr B [] w wr) (hE : ∀ x ∈ E, x < wr.heap.size) (h : JE B E wr j dp st M) (hM : M + 345 ≤ 1000000) :
    Calls Tryd.prog 19 #[.pointer (some ⟨j, 0, none⟩)] wr (CAns B E w wr j dp st st (M + 345)) := by
  obtain ⟨d, T, h5, hR, hn, ho⟩ := h
  refine (sync_ok (hF.more hE) h5 hR (by omega)).mono ?_
  rintro e w' ⟨c, rfl, q⟩
  rcases q with ⟨rfl, hF', d', hJ', hR', hx⟩ | ⟨rfl, hF', d', T', hJ', hS', hx, hcut⟩
  · exact ⟨hF.trans hF' (by simp), hF'.same, .inl ⟨rfl, d', [], hJ', hR', hx.n.trans hn, by have := hx.ops; omega⟩⟩
  · exact ⟨hF.trans hF' (by simp), hF'.same, .inr ⟨rfl, d', hJ'.dev, hS', hx.n.trans hn⟩⟩
/-- Commit, in a world in which all but the box bt stands as it stood behind changes. -/
theorem commit_c {B : Nat} {E Ex : List Nat} {w w5 w8 : World} {j dp bt : Nat} {st : List Int} {cl : List (Int × Int)} {M : Nat} {v : Value} {A : Array Value} (hst : st.length = 30) (hF : Fr B [] w w5) (hB : B ≤ bt) (hE : ∀ x ∈ E, x < w5.heap.size) (hbt : bt ∈ E) (h : JE B E w5 j dp st M) (hM : M + 345 ≤ 1000000)
    (hb8 : Below w5.heap.size w5 w8) (hEx : ∀ y ∈ Ex, w5.heap.size ≤ y ∧ y < w8.heap.size) (hC : Chg Ex w8 v (csOf cl st)) :
    Calls Tryd.prog 18 #[.pointer (some ⟨j, 0, none⟩), v] (w8.setRow bt A) (CAns B E w (w8.setRow bt A) j dp st (csOf cl st).st (M + 345)) := by
  obtain ⟨d, T, h5, hR, hn, ho⟩ := h
  have hbl := hE bt hbt
  have k := keeps_setRow w8 bt A
  have s9 : (w8.setRow bt A).heap.size = w8.heap.size := by simp
  have hs := hb8.size
  have hF9 : Fr B [] w (w8.setRow bt A) := (hF.below hb8).set hB A
  have hJ9 : JP B (Ex ++ E) (w8.setRow bt A) j dp d T false := ((h5.ext (fun y hy => by
    rcases List.mem_append.1 hy with q | q
    · exact .inr (hEx y q).1
    · exact .inl q)).below hb8).keeps1 k (by simp [hbt])
  have hC9 : Chg (Ex ++ E) (w8.setRow bt A) v (csOf cl st) := (hC.same (fun y hy => k.block y (hEx y hy).2 (by have := (hEx y hy).1; simp; omega))).ext (fun y hy => by simp [hy])
  have hFE : Fr B (Ex ++ E) (w8.setRow bt A) (w8.setRow bt A) := hF9.more (fun y hy => by
    rw [s9]
    rcases List.mem_append.1 hy with q | q
    · exact (hEx y q).2
    · have := hE y q; omega)
  refine (commitG hFE hJ9 hR hn hC9 (csOk cl st hst) (by omega)).mono ?_
  rintro e w' ⟨c, rfl, q⟩
  rcases q with ⟨rfl, hF', d', T', hJ', hR', hx⟩ | ⟨rfl, hF', d', T', hJ', hS', hx, hcut⟩
  · exact ⟨hF9.trans hF' (by simp), fun x hx => hF'.same x (by simp [hx]), .inl ⟨rfl, d', T', hJ'.ext (fun y hy => .inl (by simp [hy])), hR', hx.n.trans hn, by have := hx.ops; omega⟩⟩
  · exact ⟨hF9.trans hF' (by simp), fun x hx => hF'.same x (by simp [hx]), .inr ⟨rfl, d', hJ'.dev.ext (fun y hy => .inl (by simp [hy])), hS', hx.n.trans hn⟩⟩
/-- The region's two outcomes: changes, then the box; the box, then changes. -/
def Made (w5 w8 : World) (b4 : Nat) (cl : List (Int × Int)) (st : List Int) (v : Value) : Prop :=
  Bx w8 b4 (csOf cl st).st ∧ Below w5.heap.size w5 w8 ∧ w5.heap.size ≤ b4 ∧ ∃ Ex, (∀ y ∈ Ex, w5.heap.size ≤ y ∧ y < w8.heap.size) ∧ Chg Ex w8 v (csOf cl st)
theorem made_a {w5 w6 : World} {cl : List (Int × Int)} {st : List Int} (hst : st.length = 30) {v x : Value} (Z : Array Value) (h6 : ChgPost w5 cl st (.returned (.tuple #[v, x])) w6) : Made w5 ((w6.alloc (.cells Z 30)).setRow w6.heap.size (av (csOf cl st).st)) w6.heap.size cl st v := by
  obtain ⟨rfl, hb6, hv, Ex, hEx, hC⟩ := chg_of hst h6
  obtain ⟨q1, q2, q3⟩ := boxed w6 Z (av (csOf cl st).st)
  have hs6 := hb6.size
  exact ⟨q2, hb6.trans (q1.mono hs6), hs6, Ex ++ [], fun y hy => by simp at hy; have := hEx y hy; rw [q3]; omega, (hC []).same (fun y hy => q1.block y (by simp at hy; exact (hEx y hy).2))⟩
theorem made_b {w5 w6 : World} {cl : List (Int × Int)} {st : List Int} (hst : st.length = 30) {v x : Value} {Z : Array Value} (h6 : ChgPost (w5.alloc (.cells Z 30)) cl st (.returned (.tuple #[v, x])) w6) : Made w5 (w6.setRow w5.heap.size (av (csOf cl st).st)) w5.heap.size cl st v := by
  obtain ⟨rfl, hb6, hv, Ex, hEx, hC⟩ := chg_of hst h6
  have b1 : Below w5.heap.size w5 (w5.alloc (.cells Z 30)) := (Below.refl _ _).alloc (Nat.le_refl _) _
  have e1 := heap_alloc_new w5 (.cells Z 30)
  have s1 : (w5.alloc (.cells Z 30)).heap.size = w5.heap.size + 1 := by show (w5.heap.push _).size = _; simp
  have hs6 := hb6.size
  have hx6 : w6.heap[w5.heap.size]? = some (.cells Z 30 (0, 0)) := (hb6.block _ (by omega)).trans e1
  have hb56 : Below w5.heap.size w5 w6 := b1.trans (hb6.mono (by omega))
  have oth : ∀ y, y ≠ w5.heap.size → (w6.setRow w5.heap.size (av (csOf cl st).st)).heap[y]? = w6.heap[y]? := fun y hy => setRow_other _ _ _ _ hy
  have s8 : (w6.setRow w5.heap.size (av (csOf cl st).st)).heap.size = w6.heap.size := by simp
  exact ⟨setRow_heap _ _ _ _ _ _ hx6, hb56.trans ⟨rfl, rfl, rfl, by rw [s8]; exact Nat.le_refl _, fun y hy => oth y (by omega)⟩, Nat.le_refl _, Ex ++ [], fun y hy => by simp at hy; have := hEx y hy; rw [s8]; omega, (hC []).same (fun y hy => oth y (by simp at hy; have := hEx y hy; omega))⟩
/-- Behind the loop. -/
def TZ (B : Nat) (w wr : World) (bs bm : Nat) (st sm : List Int) (dp : Nat) : Prop :=
  Fr B [] w wr ∧ Bx wr bs st ∧ Bx wr bm sm ∧ st.length = 30 ∧ sm.length = 30 ∧ DX B [bs, bm] wr dp st sm
def ZOpen (B : Nat) (w : World) (bs bm : Nat) (st sm : List Int) (e : Ending) (w' : World) : Prop :=
  ∃ dp j d T s, e = .returned (.tuple #[.pointer (some ⟨dp, 0, none⟩), .pointer (some ⟨j, 0, none⟩), .bool true]) ∧ Fr B [] w w' ∧ Bx w' bs st ∧ Bx w' bm sm ∧ st.length = 30 ∧ sm.length = 30 ∧ JP B [bs, bm] w' j dp d T false ∧ Rest d T (absS s) ∧ d.n = 275 ∧ (s = st ∨ s = sm)
theorem TZ.crash {B : Nat} {w wr : World} {bs bm : Nat} {st sm : List Int} {dp : Nat} (h : TZ B w wr bs bm st sm dp) (pa ca : Option Addr) (picks cuts : List Int) (pcap ccap : Nat) (hp : ∀ w', Fr B [] w w' → RowI w' pa picks) (hcu : ∀ w', Fr B [] w w' → RowI w' ca cuts) (hpl : picks.length ≤ 9223372036854775807) (hcl : cuts.length ≤ 9223372036854775807) :
    Calls Tryd.prog 29 #[.pointer (some ⟨dp, 0, none⟩), .slice pa picks.length pcap] wr fun e w' => ∃ c, e = .returned (.pointer (some ⟨c, 0, none⟩)) ∧ Calls Tryd.prog 31 #[.pointer (some ⟨c, 0, none⟩), .slice ca cuts.length ccap, .slice pa picks.length pcap] w' (ZOpen B w bs bm st sm) := by
  obtain ⟨hF, x1, x2, l1, l2, d, hD, hS, hn⟩ := h
  have hFb : Fr B [bs, bm] wr wr := hF.more (fun x hx => by simp at hx; rcases hx with rfl | rfl; exact x1.lt; exact x2.lt)
  refine (crashF hFb hD pa picks pcap (hp wr hF) hpl).mono ?_
  rintro e w' ⟨c, rfl, g1, g2, _⟩
  have key : ∀ s T, Rest (d.crash picks) T (absS s) → (s = st ∨ s = sm) → Calls Tryd.prog 31 #[.pointer (some ⟨c, 0, none⟩), .slice ca cuts.length ccap, .slice pa picks.length pcap] w' (ZOpen B w bs bm st sm) := fun s T hR hs => by
    refine (opened_any g1 g2 hR rfl rfl ca pa ccap pcap cuts picks (fun w'' h => hcu w'' (hF.trans h (by simp))) (fun w'' h => hp w'' (hF.trans h (by simp))) hcl hpl).mono ?_
    rintro e w'' ⟨dp', j', d', T'', rfl, q1, q2, q3, q4, q5, q6⟩
    exact ⟨dp', j', d', T'', s, rfl, hF.trans q1 (by simp), (q1.same bs (by simp)).trans x1, (q1.same bm (by simp)).trans x2, l1, l2, q2, q3, q4.trans hn, hs⟩
  rcases hS.crash (by omega) picks with ⟨T, hR⟩ | ⟨T, hR⟩
  · exact ⟨c, rfl, key st T hR (.inl rfl)⟩
  · exact ⟨c, rfl, key sm T hR (.inr rfl)⟩
end Go.Proofs.YtmodjgailmpfmaaDoor
namespace Go.Proofs.YtmodjgailmpfmaaDoor
set_option linter.unusedSimpArgs false
set_option linter.unusedVariables false
open Go.RowKit Go.MapKept Go.Proofs
def QS (B : Nat) (w wr : World) (bs bm : Nat) (st : List Int) (j dp M : Nat) : Prop :=
  Fr B [] w wr ∧ B ≤ bs ∧ B ≤ bm ∧ bs ≠ bm ∧ Bx wr bs st ∧ Bx wr bm st ∧ st.length = 30 ∧ JE B [bs, bm] wr j dp st M
theorem DX.ext {B : Nat} {E E' : List Nat} {w : World} {dp : Nat} {st st2 : List Int} (h : DX B E w dp st st2) (hE : ∀ x ∈ E', x ∈ E) : DX B E' w dp st st2 := by
  obtain ⟨d, h1, h2⟩ := h; exact ⟨d, h1.ext (fun x hx => .inl (hE x hx)), h2⟩
def CP (B : Nat) (w : World) (bs bm bt : Nat) (st x : List Int) (j dp M : Nat) (e : Ending) (w9 : World) : Prop :=
  Fr B [] w w9 ∧ Bx w9 bs st ∧ Bx w9 bm st ∧ Bx w9 bt x ∧ ((e = .returned (.int .i64 0) ∧ JE B [bs, bm, bt] w9 j dp x M) ∨ (e = .returned (.int .i64 9) ∧ DX B [bs, bm, bt] w9 dp st x))
theorem CAns.cp {B : Nat} {w w8 w' : World} {bs bm bt j dp : Nat} {st x : List Int} {M : Nat} {e : Ending} (h : CAns B [bs, bm, bt] w w8 j dp st x M e w') (h1 : Bx w8 bs st) (h2 : Bx w8 bm st) (h3 : Bx w8 bt x) : CP B w bs bm bt st x j dp M e w' :=
  ⟨h.1, h.bx (by simp) h1, h.bx (by simp) h2, h.bx (by simp) h3, h.2.2⟩
theorem qs_ok {B : Nat} {w w9 : World} {bs bm bt j dp M : Nat} {st x : List Int} (hB1 : B ≤ bs) (hB2 : B ≤ bm) (hne : bs ≠ bm) (hx : x.length = 30) (hF : Fr B [] w w9) (s : Bx w9 bs st) (m : Bx w9 bm st) (h : JE B [bs, bm, bt] w9 j dp x M) : QS B w ((w9.setRow bs (av x)).setRow bm (av x)) bs bm x j dp M :=
  ⟨(hF.set hB1 _).set hB2 _, hB1, hB2, hne, (Bx.set s x).oth hne _, Bx.set (m.oth (fun e => hne e.symm) _) x, hx, ((h.set (by simp) _).set (by simp) _).ext (fun y hy => .inl (by simp at hy; rcases hy with rfl | rfl <;> simp))⟩
theorem qs_off {B : Nat} {w w9 : World} {bs bm bt dp : Nat} {st x : List Int} (hB2 : B ≤ bm) (hne : bs ≠ bm) (hst : st.length = 30) (hx : x.length = 30) (hF : Fr B [] w w9) (s : Bx w9 bs st) (m : Bx w9 bm st) (h : DX B [bs, bm, bt] w9 dp st x) : TZ B w (w9.setRow bm (av x)) bs bm st x dp :=
  ⟨hF.set hB2 _, s.oth hne _, Bx.set m x, hst, hx, (h.set (by simp) _).ext (fun y hy => by simp at hy; rcases hy with rfl | rfl <;> simp)⟩
theorem QS.tz {B : Nat} {w wr : World} {bs bm : Nat} {st : List Int} {j dp M : Nat} (h : QS B w wr bs bm st j dp M) : TZ B w wr bs bm st st dp := by
  obtain ⟨h1, _, _, _, h5, h6, h7, d, T, g1, g2, g3, _⟩ := h
  exact ⟨h1, h5, h6, h7, h7, d, g1.dev, g2.safe _, g3⟩
theorem QS.start {B : Nat} {w w4 : World} {j dp : Nat} (h : JC B w (w4.alloc (.cells (av z30) 30)) w4.heap.size z30 j dp 3) : QS B w (((w4.alloc (.cells (av z30) 30)).alloc (.cells (av z30) 30)).setRow (w4.heap.size + 1) (av z30)) w4.heap.size (w4.heap.size + 1) z30 j dp 3 := by
  obtain ⟨d, T, h1, h2, h3, h4, h5, h6⟩ := h
  obtain ⟨q1, q2, q3⟩ := boxed (w4.alloc (.cells (av z30) 30)) (av z30) (av z30)
  have s1 : (w4.alloc (.cells (av z30) 30)).heap.size = w4.heap.size + 1 := by show (w4.heap.push _).size = _; simp
  rw [s1] at q1 q2 q3
  have q1' : Below (w4.alloc (.cells (av z30) 30)).heap.size (w4.alloc (.cells (av z30) 30)) (((w4.alloc (.cells (av z30) 30)).alloc (.cells (av z30) 30)).setRow (w4.heap.size + 1) (av z30)) := by rw [s1]; exact q1
  exact ⟨h1.below q1', h2, by omega, by omega, Bx.below h3 q1', q2, h4, d, T, (h5.ext (fun x hx => by simp at hx; rcases hx with rfl | rfl; exact .inl (by simp); exact .inr (by omega))).below q1', h6⟩
end Go.Proofs.YtmodjgailmpfmaaDoor
namespace Go.Proofs.YtmodjgailmpfmaaDoor
set_option linter.unusedSimpArgs false
set_option linter.unusedVariables false
open Go.RowKit Go.MapKept Go.Proofs
theorem JE.mono {B : Nat} {E : List Nat} {w : World} {j dp : Nat} {st : List Int} {M M' : Nat} (h : JE B E w j dp st M) (hM : M ≤ M') : JE B E w j dp st M' := by
  obtain ⟨d, T, h1, h2, h3, h4⟩ := h; exact ⟨d, T, h1, h2, h3, by omega⟩
/-- The world with t's box. -/
def W1x (wr : World) (st : List Int) : World := (wr.alloc (.cells (av z30) 30)).setRow wr.heap.size (av st)
set_option maxRecDepth 100000 in
set_option maxHeartbeats 4000000 in
theorem journalCrash_walk (a0 : Option Addr) (cap0 : Nat) (l0 : List Stp) (a1 : Int) (a2 : Option Addr) (cap2 : Nat) (l2 : List Int) (a3 : Option Addr) (cap3 : Nat) (l3 : List Int) (w : World) (ht : Tab w) (w0 : SRow w a0 l0) (m0 : l0.length ≤ 9223372036854775807) (w1 : (Lit.int .i64 a1).wf = true) (w2 : RowI w a2 l2) (m2 : l2.length ≤ maxLen) (w3 : RowI w a3 l3) (m3 : l3.length ≤ maxLen) :
    Calls Tryd.prog 7 #[.slice a0 l0.length cap0, .int .i64 a1, .slice a2 l2.length cap2, .slice a3 l3.length cap3] w fun e w' => e = .returned (.bool true) ∧ Below w.heap.size w w' := by
  have hF := Fr.law ht
  have HAW : Hid _ := awake_any hF
  have HF : Hid _ := fresh_any hF
  obtain ⟨z1, z2⟩ := bd64 w1
  have m0I : (l0.length : Int) ≤ 9223372036854775807 := by omega
  have m2n : l2.length ≤ 9223372036854775807 := by unfold maxLen at m2; omega
  have m2I : (l2.length : Int) ≤ 9223372036854775807 := by omega
  have m3n : l3.length ≤ 9223372036854775807 := by unfold maxLen at m3; omega
  have HSM : Hid _ := small_any a0 cap0 l0 w w0 m0
  have HR : Hid (∀ w', Fr w.heap.size [] w w' → SRow w' a0 l0) := fun w' h => w0.below h.bel
  have HP : Hid (∀ w', Fr w.heap.size [] w w' → RowI w' a2 l2) := fun w' h i hi => by
    obtain ⟨b, off, e, h1, h2⟩ := w2 i hi
    exact ⟨b, off, e, by rw [h.bel.cell (World.block_lt_of_cell? _ _ h1)]; exact h1, h2⟩
  have HP3 : Hid (∀ w', Fr w.heap.size [] w w' → RowI w' a3 l3) := fun w' h i hi => by
    obtain ⟨b, off, e, h1, h2⟩ := w3 i hi
    exact ⟨b, off, e, by rw [h.bel.cell (World.block_lt_of_cell? _ _ h1)]; exact h1, h2⟩
  have hzz := info30 z30 z30_len
  have honez := av_one z30
  clear hF ht w0 w1 w2 m2 w3 m3
  go_enter Tryd.func7, Tryd.ntmps7
  go_wp2_with (first
    | (go_at_call 14; refine Calls.mono HSM.out ?_; rintro e w2 ⟨bs, rfl, hb40, hw⟩; subst w2; have HB40 : Hid (bs = true → l0.length ≤ 40) := hb40; clear hb40; cases bs)
    | (go_at_call 15; refine Calls.mono HAW.out ?_; rintro e wA ⟨rfl, hFA⟩)
    | (go_at_call 16; refine Calls.mono HF.out ?_; rintro e w3 ⟨dp, j, d, rfl, hF3, hJ3, hR3, hn3, hc3, ho3⟩; have hCU := JC.cut hF3 hJ3 hR3 hn3 ho3 a1 z2; clear hF3 hJ3 hR3 hn3 hc3 ho3)
    | (go_at_call 30; refine Calls.mono hCU ?_; rintro e w4 ⟨⟨v4, rfl⟩, hJC⟩; clear hCU; have xz := hJC.box; have ez := heap_alloc_new (w4.alloc (.cells (av z30) 30)) (.cells (av z30) 30); rw [show (w4.alloc (.cells (av z30) 30)).heap.size = w4.heap.size + 1 by show (w4.heap.push _).size = _; simp] at ez)
    | (have _h := xz; refine wpList_load_row rfl 30 _ rfl w4.heap.size rfl 30 (av z30) (0, 0) _ xz Tryd.underlying30 rfl hzz ?_; clear _h xz)
    | (have _h := ez; refine wpList_store_row rfl 30 _ _ rfl (w4.heap.size + 1) (av z30) rfl rfl 30 (av z30) ez hzz rfl honez ?_; clear _h ez))
  · go_ret
    exact ⟨rfl, hFA.bel⟩
  · go_ret
    exact ⟨rfl, hFA.bel⟩
  rotate_left
  · go_ret
    exact ⟨rfl, hFA.bel⟩
  · go_ret
    exact ⟨rfl, hFA.bel⟩
  have h40 : l0.length ≤ 40 := HB40.out (by trivial)
  have h40I : (l0.length : Int) ≤ 40 := by omega
  have HQ0 : Hid (QS w.heap.size w (((w4.alloc (.cells (av z30) 30)).alloc (.cells (av z30) 30)).setRow (w4.heap.size + 1) (av z30)) w4.heap.size (w4.heap.size + 1) z30 j dp 3) := QS.start hJC
  clear hJC HF HAW HSM HB40
  obtain ⟨bm, HBM⟩ : ∃ bm, Hid (w4.heap.size + 1 = bm) := ⟨_, rfl⟩
  have hBM := HBM.out
  rw [hBM] at HQ0 ⊢
  clear HBM hBM
  obtain ⟨bs, HBS⟩ : ∃ bs, Hid (w4.heap.size = bs) := ⟨_, rfl⟩
  have hBS := HBS.out
  rw [hBS] at HQ0 ⊢
  clear HBS hBS
  have HTC : Hid (∀ wx st sm, TZ w.heap.size w wx bs bm st sm dp → Calls Tryd.prog 29 #[.pointer (some ⟨dp, 0, none⟩), .slice a2 l2.length cap2] wx fun e w' => ∃ c, e = .returned (.pointer (some ⟨c, 0, none⟩)) ∧ Calls Tryd.prog 31 #[.pointer (some ⟨c, 0, none⟩), .slice a3 l3.length cap3, .slice a2 l2.length cap2] w' (ZOpen w.heap.size w bs bm st sm)) := fun wx st sm h => h.crash a2 a3 l2 l3 cap2 cap3 HP.out HP3.out m2n m3n
  have HBB : Hid (∀ s st sm, (s = st ∨ s = sm) → isB (absS s) st = false → isB (absS s) sm = true) := by
    rintro s st sm (rfl | rfl) h
    · rw [isB_self] at h; cases h
    · exact isB_self _
  go_loopw [14] (fun i wr => ∃ k st, k ≤ l0.length ∧ i = .int .i64 ((k : Nat) : Int) ∧ QS w.heap.size w wr bs bm st j dp (3 + 345 * k)) (fun i _ => l0.length - (intOf i).toNat)
  case atStart => exact ⟨0, z30, by omega, rfl, HQ0.out⟩
  case round =>
    clear HQ0
    obtain ⟨k, st, hk, rfl, hS⟩ := hrel
    by_cases hlt : k < l0.length
    · have hltI : (k : Int) < (l0.length : Int) := by omega
      obtain ⟨lk, off, rfl, r1, r2, r3, r4⟩ := HR.out wr hS.1 k hlt
      generalize l0.getD k stp0 = sp at *
      obtain ⟨kd, ca, cl, ccap⟩ := sp
      dsimp only at r1 r2 r3 r4
      have hst := hS.2.2.2.2.2.2.1
      have hB1 := hS.2.1
      have hB2 := hS.2.2.1
      have hne := hS.2.2.2.1
      have hok := csOk cl st hst
      have hzs := info30 st hst
      have hz2c := info30 _ hok.stl
      have hone := av_one (csOf cl st).st
      have hones := av_one st
      have hsz : (av z30).size = (av (csOf cl st).st).size := by rw [av_size, av_size, hok.stl]; rfl
      have hszs : (av z30).size = (av st).size := by rw [av_size, av_size, hst]; rfl
      have hszss : (av st).size = (av st).size := rfl
      have hsz2 : (av st).size = (av (csOf cl st).st).size := by rw [av_size, av_size, hok.stl, hst]
      have hne' : bm ≠ bs := fun e => hne e.symm
      have hwk : IntKind.i64.wrap (k : Int) = (k : Int) := wrap_small _ (by omega) (by omega)
      have hkI0 : (0 : Int) ≤ (k : Int) := by omega
      have ez := heap_alloc_new wr (.cells (av z30) 30)
      have hS0 : wr.heap[bs]? = some (.cells (av st) 30 (0, 0)) := hS.2.2.2.2.1
      have qZ : ∀ Z : Array Value, Below wr.heap.size wr ((wr.alloc (.cells Z 30)).setRow wr.heap.size (av st)) := fun Z => (boxed wr Z (av st)).1
      have q1 : Below wr.heap.size wr (W1x wr st) := qZ _
      have hszW : (W1x wr st).heap.size = wr.heap.size + 1 := (boxed wr (av z30) (av st)).2.2
      have hx3 : Bx (W1x wr st) wr.heap.size st := (boxed wr (av z30) (av st)).2.1
      have hDb : Below (W1x wr st).heap.size (W1x wr st) (W1x wr st).drew := ⟨rfl, rfl, rfl, Nat.le_refl _, fun _ _ => rfl⟩
      have q1d : Below wr.heap.size wr (W1x wr st).drew := q1.trans (hDb.mono q1.size)
      have hbs := Bx.lt hS.2.2.2.2.1
      have hbm := Bx.lt hS.2.2.2.2.2.1
      have hE : ∀ x ∈ [bs, bm, wr.heap.size], x < (W1x wr st).heap.size := fun x hx => by rw [hszW]; simp at hx; omega
      have hF1 := hS.1.below q1
      have hJ1 : JE w.heap.size [bs, bm, wr.heap.size] (W1x wr st) j dp st (3 + 345 * k) := (hS.2.2.2.2.2.2.2.ext (fun x hx => by simp at hx; rcases hx with rfl | rfl | rfl; exact .inl (by simp); exact .inl (by simp); exact .inr (Nat.le_refl _))).below q1
      have hB3 : w.heap.size ≤ wr.heap.size := Nat.le_trans hS.1.big hS.1.size
      have hx1 := Bx.below hS.2.2.2.2.1 q1
      have hx2 := Bx.below hS.2.2.2.2.2.1 q1
      have r1g : ∀ Z : Array Value, ((wr.alloc (.cells Z 30)).setRow wr.heap.size (av st)).cell? ⟨lk, off + k * 2, none⟩ = some (.int .i64 kd) := fun Z => ((qZ Z).cell (World.block_lt_of_cell? _ _ r1)).trans r1
      have r2' : (W1x wr st).cell? ⟨lk, off + k * 2 + 1, none⟩ = some (.slice ca cl.length ccap) := (q1.cell (World.block_lt_of_cell? _ _ r2)).trans r2
      have HOKN : Hid (∀ x w9 M, x.length = 30 → Fr w.heap.size [] w w9 → Bx w9 bs st → Bx w9 bm st → JE w.heap.size [bs, bm, wr.heap.size] w9 j dp x M → QS w.heap.size w ((w9.setRow bs (av x)).setRow bm (av x)) bs bm x j dp M) := fun x w9 M hx h1 h2 h3 h4 => qs_ok hB1 hB2 hne hx h1 h2 h3 h4
      have HOFF : Hid (∀ x w9, x.length = 30 → Fr w.heap.size [] w w9 → Bx w9 bs st → Bx w9 bm st → DX w.heap.size [bs, bm, wr.heap.size] w9 dp st x → TZ w.heap.size w (w9.setRow bm (av x)) bs bm st x dp) := fun x w9 hx h1 h2 h3 h4 => qs_off hB2 hne hst hx h1 h2 h3 h4
      by_cases hk1 : kd = 1
      · subst hk1
        have honex := hone
        have hszx := hsz2
        have hzm := hz2c
        have HSx : Hid (∀ x, Below (W1x wr st).heap.size (W1x wr st) x → x.cell? ⟨lk, off + k * 2 + 1, none⟩ = some (.slice ca cl.length ccap) ∧ x.heap[bs]? = some (.cells (av st) 30 (0, 0)) ∧ Below (W1x wr st).heap.size (W1x wr st) x) := fun x hb => ⟨by rw [hb.cell (World.block_lt_of_cell? _ _ r2')]; exact r2', Bx.below hx1 hb, hb⟩
        have HCC : Hid (∀ wx, Below (W1x wr st).heap.size (W1x wr st) wx → Calls Tryd.prog 17 #[.slice ca cl.length ccap, .agg (av st)] wx (ChgOut wx cl st)) := fun wx hb => changes_out ca ccap cl st wx ((r3.below q1).below hb) r4 hst
        have key : ∀ w8 b4 v, Made (W1x wr st).drew w8 b4 cl st v → w8.heap[b4]? = some (.cells (av (csOf cl st).st) 30 (0, 0)) ∧ w8.heap[wr.heap.size]? = some (.cells (av st) 30 (0, 0)) ∧ Calls Tryd.prog 18 #[.pointer (some ⟨j, 0, none⟩), v] (w8.setRow wr.heap.size (av (csOf cl st).st)) (CP w.heap.size w bs bm wr.heap.size st (csOf cl st).st j dp (3 + 345 * k + 345)) := fun w8 b4 v hm => by
          obtain ⟨y8, hb8, hb4, Ex, hEx, hC⟩ := hm
          have hb8' : Below (W1x wr st).heap.size (W1x wr st) w8 := hDb.trans (hb8.mono (Nat.le_refl _))
          have x8 := Bx.below hx3 hb8'
          refine ⟨y8, x8, (commit_c (E := [bs, bm, wr.heap.size]) hst (hF1.below hDb) hB3 hE (by simp) (hJ1.below hDb) (by omega) hb8 hEx hC).mono (fun e w' h => h.cp ?_ ?_ ?_)⟩
          · exact (Bx.below hx1 hb8').oth (by omega) _
          · exact (Bx.below hx2 hb8').oth (by omega) _
          · exact Bx.set x8 _
        have HCMA : Hid (∀ w6 v, ChgPost (W1x wr st).drew cl st (.returned (.tuple #[v, .agg (av (csOf cl st).st)])) w6 → _) := fun w6 v h6 => key _ _ _ (made_a hst (av z30) h6)
        have HCMB : Hid (∀ w6 v, ChgPost ((W1x wr st).drew.alloc (.cells (av z30) 30)) cl st (.returned (.tuple #[v, .agg (av (csOf cl st).st)])) w6 → (w6.setRow (wr.heap.size + 1) (av (csOf cl st).st)).heap[wr.heap.size + 1]? = some (.cells (av (csOf cl st).st) 30 (0, 0)) ∧ (w6.setRow (wr.heap.size + 1) (av (csOf cl st).st)).heap[wr.heap.size]? = some (.cells (av st) 30 (0, 0)) ∧ Calls Tryd.prog 18 #[.pointer (some ⟨j, 0, none⟩), v] ((w6.setRow (wr.heap.size + 1) (av (csOf cl st).st)).setRow wr.heap.size (av (csOf cl st).st)) (CP w.heap.size w bs bm wr.heap.size st (csOf cl st).st j dp (3 + 345 * k + 345))) := fun w6 v h6 => by
          have := made_b hst h6
          rw [show (W1x wr st).drew.heap.size = wr.heap.size + 1 from hszW] at this
          exact key _ _ _ this
        have HE6 : Hid (∀ w6, Below ((W1x wr st).drew.alloc (.cells (av z30) 30)).heap.size ((W1x wr st).drew.alloc (.cells (av z30) 30)) w6 → w6.heap[wr.heap.size + 1]? = some (.cells (av z30) 30 (0, 0))) := fun w6 hb => by
          have e := heap_alloc_new (W1x wr st).drew (.cells (av z30) 30)
          rw [show (W1x wr st).drew.heap.size = wr.heap.size + 1 from hszW] at e
          exact (hb.block _ (Array.getElem?_eq_some_iff.1 e).1).trans e
        have hcst := hok.stl
        clear hS r3 hok hbs hbm hE hF1 hJ1 hx1 hx2 hx3 r1 r2 r2' q1 q1d qZ hszW key HR HP HP3
        go_wp2_with (first
          | (have _h := hS0; refine wpList_load_row rfl 30 _ rfl bs rfl 30 (av st) (0, 0) _ hS0 Tryd.underlying30 rfl hzs ?_; clear _h hS0)
          | (have _h := ez; refine wpList_store_row rfl 30 _ _ rfl wr.heap.size (av st) rfl rfl 30 (av z30) ez hzs hszs hones ?_; clear _h ez))
        refine wp_region_lat (fun x => x.cell? ⟨lk, off + k * 2 + 1, none⟩ = some (.slice ca cl.length ccap) ∧ x.heap[bs]? = some (.cells (av st) 30 (0, 0)) ∧ Below (W1x wr st).heap.size (W1x wr st) x) 12 (by kernel_rfl) (HSx.out (W1x wr st).drew hDb) (fun hHeld => ?_)
        refine lat_take 0 (v := ?_) rfl (by kernel_rfl) (by kernel_rfl) (by kernel_rfl) (by kernel_rfl) (fun _ _ _ h => h) (by rfl) ?_ (by assumption) ?_
        rotate_left
        · (intro w hSw; (try dsimp only at hSw); go_simp <;> with_reducible rfl)
        try simp only [Act.put, List.setIfInBounds_toArray, List.set_cons_zero, List.set_cons_succ]
        refine lat_take 1 (v := ?_) rfl (by kernel_rfl) (by kernel_rfl) (by kernel_rfl) (by kernel_rfl) (fun _ _ _ h => h) (by rfl) ?_ (by assumption) ?_
        rotate_left
        · (intro w hSw; (try dsimp only at hSw); go_simp <;> with_reducible rfl)
        try simp only [Act.put, List.setIfInBounds_toArray, List.set_cons_zero, List.set_cons_succ]
        refine lat_take 2 (v := ?_) rfl (by kernel_rfl) (by kernel_rfl) (by kernel_rfl) (by kernel_rfl) (fun _ _ _ h => h) (by rfl) ?_ (by assumption) ?_
        rotate_left
        · (intro w hSw; (try dsimp only at hSw); go_simp <;> with_reducible rfl)
        try simp only [Act.put, List.setIfInBounds_toArray, List.set_cons_zero, List.set_cons_succ]
        refine lat_take 3 (v := ?_) rfl (by kernel_rfl) (by kernel_rfl) (by kernel_rfl) (by kernel_rfl) (fun _ _ _ h => h) (by rfl) ?_ (by assumption) ?_
        rotate_left
        · (intro w hSw; (try dsimp only at hSw); go_simp <;> with_reducible rfl)
        try simp only [Act.put, List.setIfInBounds_toArray, List.set_cons_zero, List.set_cons_succ]
        refine lat_take 4 (v := ?_) rfl (by kernel_rfl) (by kernel_rfl) (by kernel_rfl) (by kernel_rfl) (fun _ _ _ h => h) (by rfl) ?_ (by assumption) ?_
        rotate_left
        · (intro w hSw; (try dsimp only at hSw); go_simp <;> with_reducible rfl)
        try simp only [Act.put, List.setIfInBounds_toArray, List.set_cons_zero, List.set_cons_succ]
        refine lat_take 5 (v := .agg (av st)) rfl (by kernel_rfl) (by kernel_rfl) (by kernel_rfl) (by kernel_rfl) (fun _ _ _ h => h) (by rfl) (fun w hSw => exec_load_row 30 _ rfl bs rfl 30 (av st) (0, 0) _ hSw.2.1 Tryd.underlying30 rfl hzs) (by assumption) ?_
        try simp only [Act.put, List.setIfInBounds_toArray, List.set_cons_zero, List.set_cons_succ]
        refine lat_two 6 10 rfl rfl (by kernel_rfl) (by decide) (by decide) (by rfl) (by rfl) (fun K hK => ?_) (fun K hK => ?_)
        · go_simp
          refine Calls.mono (HCC.out (W1x wr st).drew hDb) ?_
          rintro e w6 ⟨v, rfl, h6⟩
          have hb6 : Below (W1x wr st).heap.size (W1x wr st) w6 := hDb.trans (h6.bel.mono (Nat.le_refl _))
          dsimp only
          refine hK.out _ _ (HSx.out w6 hb6) (fun hHeld2 => ?_)
          clear hK hHeld
          try simp only [Act.put, List.setIfInBounds_toArray, List.set_cons_zero, List.set_cons_succ]
          refine lat_take 7 (v := ?_) rfl (by kernel_rfl) (by kernel_rfl) (by kernel_rfl) (by kernel_rfl) (fun _ _ _ h => h) (by rfl) ?_ (by assumption) ?_
          rotate_left
          · (intro w hSw; (try dsimp only at hSw); go_simp <;> with_reducible rfl)
          try simp only [Act.put, List.setIfInBounds_toArray, List.set_cons_zero, List.set_cons_succ]
          refine lat_take 8 (v := ?_) rfl (by kernel_rfl) (by kernel_rfl) (by kernel_rfl) (by kernel_rfl) (fun _ _ _ h => h) (by rfl) ?_ (by assumption) ?_
          rotate_left
          · (intro w hSw; (try dsimp only at hSw); go_simp <;> with_reducible rfl)
          try simp only [Act.put, List.setIfInBounds_toArray, List.set_cons_zero, List.set_cons_succ]
          refine lat_take 9 (v := ?_) rfl (by kernel_rfl) (by kernel_rfl) (by kernel_rfl) (by kernel_rfl) (fun _ _ _ h => h) (by rfl) ?_ (by assumption) ?_
          rotate_left
          · (intro w hSw; (try dsimp only at hSw); go_simp <;> with_reducible rfl)
          try simp only [Act.put, List.setIfInBounds_toArray, List.set_cons_zero, List.set_cons_succ]
          refine lat_one 10 rfl (by kernel_rfl) (by decide) (by rfl) (fun K hK => ?_)
          go_simp
          have hb7 : Below (W1x wr st).heap.size (W1x wr st) (w6.alloc (.cells (av z30) 30)) := hb6.alloc hb6.size _
          refine hK.out _ _ (HSx.out _ hb7) (fun hHeld3 => ?_)
          clear hK hHeld2
          try simp only [Act.put, List.setIfInBounds_toArray, List.set_cons_zero, List.set_cons_succ]
          refine lat_take 11 (v := ?_) rfl (by kernel_rfl) (by kernel_rfl) (by kernel_rfl) (by kernel_rfl) (fun _ _ _ h => h) (by rfl) ?_ (by assumption) ?_
          rotate_left
          · (intro w hSw; (try dsimp only at hSw); go_simp <;> with_reducible rfl)
          try simp only [Act.put, List.setIfInBounds_toArray, List.set_cons_zero, List.set_cons_succ]
          refine lat_last 12 rfl (by kernel_rfl) (by decide) (by kernel_rfl) (by rfl) (fun K hK => ?_)
          refine wp_store_row 30 _ _ rfl w6.heap.size (av (csOf cl st).st) rfl rfl 30 (av z30) (heap_alloc_new w6 (.cells (av z30) 30)) hz2c hsz hone (hK.out _ _ ?_)
          have HCM := HCMA.out w6 v h6
          clear hK hHeld3 h6 hb6 hb7
          try simp only [Act.put, List.setIfInBounds_toArray, List.set_cons_zero, List.set_cons_succ]
          obtain ⟨y8, x8, HCM2⟩ := HCM
          go_wp2_with (first
            | (have _h := y8; refine wpList_load_row rfl 30 _ rfl w6.heap.size rfl 30 (av (csOf cl st).st) (0, 0) _ y8 Tryd.underlying30 rfl hz2c ?_; clear _h y8)
            | (have _h := x8; refine wpList_store_row rfl 30 _ _ rfl wr.heap.size (av (csOf cl st).st) rfl rfl 30 (av st) x8 hz2c hsz2 hone ?_; clear _h x8)
            | (go_at_call 18; refine Calls.mono HCM2 ?_; rintro e w9 ⟨hF9, s9, m9, t9, hans2⟩; clear HCM2; have HQ : Hid (Bx w9 bs st ∧ Bx w9 bm st) := ⟨s9, m9⟩; rcases hans2 with ⟨rfl, hok9⟩ | ⟨rfl, hoff⟩)
            | (have _h := t9; refine wpList_load_row rfl 30 _ rfl wr.heap.size rfl 30 (av (csOf cl st).st) (0, 0) _ t9 Tryd.underlying30 rfl hz2c ?_; clear _h t9)
            | (have _h := hoff; refine wpList_store_row rfl 30 _ _ rfl bm (av (csOf cl st).st) rfl rfl 30 (av st) m9 hz2c hszx honex ?_; clear _h m9 s9; have hTZ := HOFF.out _ w9 hcst hF9 HQ.out.1 HQ.out.2 hoff; clear hoff)
            | (have _h := s9; refine wpList_store_row rfl 30 _ _ rfl bs (av (csOf cl st).st) rfl rfl 30 (av st) s9 hz2c hszx honex ?_; have s10 := Bx.set s9 (csOf cl st).st; have m10 := Bx.oth m9 hne' (av (csOf cl st).st); clear _h s9 m9)
            | (have _h := s10; refine wpList_load_row rfl 30 _ rfl bs rfl 30 (av (csOf cl st).st) (0, 0) _ s10 Tryd.underlying30 rfl hz2c ?_; clear _h s10)
            | (have _h := m10; refine wpList_store_row rfl 30 _ _ rfl bm (av (csOf cl st).st) rfl rfl 30 (av st) m10 hz2c hszx honex ?_; clear _h m10)
            | (go_at_call 29; have _h := hTZ; refine Calls.mono (HTC.out _ st (csOf cl st).st hTZ) ?_; rintro e w11 ⟨c', rfl, hOP⟩; clear _h hTZ)
            | (go_at_call 31; have _h := hOP; refine Calls.mono hOP ?_; rintro e w12 ⟨dp2, j2, d2, T2, s2, rfl, hF12, x12, y12, l12, l12', hJ12, hR12, hn12, hs2⟩; clear _h hOP)
            | (have _h := x12; refine load_row_g rfl 30 _ rfl bs rfl 30 (av st) (0, 0) _ x12 Tryd.underlying30 rfl hzs ?_; clear _h x12; have tk1 : True := trivial)
            | (go_at_call 24; have _h := tk1; refine (is_any hJ12 hR12 hn12 st l12).mono ?_; rintro e w13 ⟨rfl, hb13⟩; clear _h tk1; have hF13 := hF12.below hb13; have hJ13 := hJ12.below hb13; have y13 := Bx.below y12 hb13; clear y12; have HB2 := HBB.out s2 st (csOf cl st).st hs2; obtain ⟨bq, hbq⟩ : ∃ b, isB (absS s2) st = b := ⟨_, rfl⟩; rw [hbq]; cases bq)
            | (have _h := y13; refine load_row_g rfl 30 _ rfl bm rfl 30 (av (csOf cl st).st) (0, 0) _ y13 Tryd.underlying30 rfl hzm ?_; clear _h y13; have tk2 : True := trivial)
            | (go_at_call 24; have _h := tk2; refine (is_any hJ13 hR12 hn12 (csOf cl st).st l12').mono ?_; rintro e w15 ⟨rfl, hb15⟩; clear _h tk2; rw [HB2 hbq]; have hF15 := hF13.below hb15; clear hF13; have hF13 := hF15)
            | (go_at_call 15; refine (awake_any hF13).mono ?_; rintro e w16 ⟨rfl, hF16⟩))
          · exact ⟨⟨k + 1, _, by omega, by go_num, HOKN.out _ w9 _ hcst hF9 HQ.out.1 HQ.out.2 hok9⟩, by simp [intOf]; omega⟩
          all_goals
            go_ret
            exact ⟨rfl, hF16.bel⟩
        · go_simp
          have hb5 : Below (W1x wr st).heap.size (W1x wr st) ((W1x wr st).drew.alloc (.cells (av z30) 30)) := hDb.alloc hDb.size _
          refine hK.out _ _ (HSx.out _ hb5) (fun hHeld2 => ?_)
          clear hK hHeld
          try simp only [Act.put, List.setIfInBounds_toArray, List.set_cons_zero, List.set_cons_succ]
          refine lat_one 6 rfl (by kernel_rfl) (by decide) (by rfl) (fun K hK => ?_)
          go_simp
          refine Calls.mono (HCC.out ((W1x wr st).drew.alloc (.cells (av z30) 30)) hb5) ?_
          rintro e w6 ⟨v, rfl, h6⟩
          have hb6 : Below (W1x wr st).heap.size (W1x wr st) w6 := hb5.trans (h6.bel.mono hb5.size)
          dsimp only
          refine hK.out _ _ (HSx.out w6 hb6) (fun hHeld3 => ?_)
          clear hK hHeld2
          try simp only [Act.put, List.setIfInBounds_toArray, List.set_cons_zero, List.set_cons_succ]
          refine lat_take 7 (v := ?_) rfl (by kernel_rfl) (by kernel_rfl) (by kernel_rfl) (by kernel_rfl) (fun _ _ _ h => h) (by rfl) ?_ (by assumption) ?_
          rotate_left
          · (intro w hSw; (try dsimp only at hSw); go_simp <;> with_reducible rfl)
          try simp only [Act.put, List.setIfInBounds_toArray, List.set_cons_zero, List.set_cons_succ]
          refine lat_take 8 (v := ?_) rfl (by kernel_rfl) (by kernel_rfl) (by kernel_rfl) (by kernel_rfl) (fun _ _ _ h => h) (by rfl) ?_ (by assumption) ?_
          rotate_left
          · (intro w hSw; (try dsimp only at hSw); go_simp <;> with_reducible rfl)
          try simp only [Act.put, List.setIfInBounds_toArray, List.set_cons_zero, List.set_cons_succ]
          refine lat_take 9 (v := ?_) rfl (by kernel_rfl) (by kernel_rfl) (by kernel_rfl) (by kernel_rfl) (fun _ _ _ h => h) (by rfl) ?_ (by assumption) ?_
          rotate_left
          · (intro w hSw; (try dsimp only at hSw); go_simp <;> with_reducible rfl)
          try simp only [Act.put, List.setIfInBounds_toArray, List.set_cons_zero, List.set_cons_succ]
          refine lat_take 11 (v := ?_) rfl (by kernel_rfl) (by kernel_rfl) (by kernel_rfl) (by kernel_rfl) (fun _ _ _ h => h) (by rfl) ?_ (by assumption) ?_
          rotate_left
          · (intro w hSw; (try dsimp only at hSw); go_simp <;> with_reducible rfl)
          try simp only [Act.put, List.setIfInBounds_toArray, List.set_cons_zero, List.set_cons_succ]
          have e6 := HE6.out w6 h6.bel
          refine lat_last 12 rfl (by kernel_rfl) (by decide) (by kernel_rfl) (by rfl) (fun K hK => ?_)
          refine wp_store_row 30 _ _ rfl (wr.heap.size + 1) (av (csOf cl st).st) rfl rfl 30 (av z30) e6 hz2c hsz hone (hK.out _ _ ?_)
          have HCM := HCMB.out w6 v h6
          clear hK hHeld3 h6 hb6 hb5 e6
          try simp only [Act.put, List.setIfInBounds_toArray, List.set_cons_zero, List.set_cons_succ]
          obtain ⟨y8, x8, HCM2⟩ := HCM
          go_wp2_with (first
            | (have _h := y8; refine wpList_load_row rfl 30 _ rfl (wr.heap.size + 1) rfl 30 (av (csOf cl st).st) (0, 0) _ y8 Tryd.underlying30 rfl hz2c ?_; clear _h y8)
            | (have _h := x8; refine wpList_store_row rfl 30 _ _ rfl wr.heap.size (av (csOf cl st).st) rfl rfl 30 (av st) x8 hz2c hsz2 hone ?_; clear _h x8)
            | (go_at_call 18; refine Calls.mono HCM2 ?_; rintro e w9 ⟨hF9, s9, m9, t9, hans2⟩; clear HCM2; have HQ : Hid (Bx w9 bs st ∧ Bx w9 bm st) := ⟨s9, m9⟩; rcases hans2 with ⟨rfl, hok9⟩ | ⟨rfl, hoff⟩)
            | (have _h := t9; refine wpList_load_row rfl 30 _ rfl wr.heap.size rfl 30 (av (csOf cl st).st) (0, 0) _ t9 Tryd.underlying30 rfl hz2c ?_; clear _h t9)
            | (have _h := hoff; refine wpList_store_row rfl 30 _ _ rfl bm (av (csOf cl st).st) rfl rfl 30 (av st) m9 hz2c hszx honex ?_; clear _h m9 s9; have hTZ := HOFF.out _ w9 hcst hF9 HQ.out.1 HQ.out.2 hoff; clear hoff)
            | (have _h := s9; refine wpList_store_row rfl 30 _ _ rfl bs (av (csOf cl st).st) rfl rfl 30 (av st) s9 hz2c hszx honex ?_; have s10 := Bx.set s9 (csOf cl st).st; have m10 := Bx.oth m9 hne' (av (csOf cl st).st); clear _h s9 m9)
            | (have _h := s10; refine wpList_load_row rfl 30 _ rfl bs rfl 30 (av (csOf cl st).st) (0, 0) _ s10 Tryd.underlying30 rfl hz2c ?_; clear _h s10)
            | (have _h := m10; refine wpList_store_row rfl 30 _ _ rfl bm (av (csOf cl st).st) rfl rfl 30 (av st) m10 hz2c hszx honex ?_; clear _h m10)
            | (go_at_call 29; have _h := hTZ; refine Calls.mono (HTC.out _ st (csOf cl st).st hTZ) ?_; rintro e w11 ⟨c', rfl, hOP⟩; clear _h hTZ)
            | (go_at_call 31; have _h := hOP; refine Calls.mono hOP ?_; rintro e w12 ⟨dp2, j2, d2, T2, s2, rfl, hF12, x12, y12, l12, l12', hJ12, hR12, hn12, hs2⟩; clear _h hOP)
            | (have _h := x12; refine load_row_g rfl 30 _ rfl bs rfl 30 (av st) (0, 0) _ x12 Tryd.underlying30 rfl hzs ?_; clear _h x12; have tk1 : True := trivial)
            | (go_at_call 24; have _h := tk1; refine (is_any hJ12 hR12 hn12 st l12).mono ?_; rintro e w13 ⟨rfl, hb13⟩; clear _h tk1; have hF13 := hF12.below hb13; have hJ13 := hJ12.below hb13; have y13 := Bx.below y12 hb13; clear y12; have HB2 := HBB.out s2 st (csOf cl st).st hs2; obtain ⟨bq, hbq⟩ : ∃ b, isB (absS s2) st = b := ⟨_, rfl⟩; rw [hbq]; cases bq)
            | (have _h := y13; refine load_row_g rfl 30 _ rfl bm rfl 30 (av (csOf cl st).st) (0, 0) _ y13 Tryd.underlying30 rfl hzm ?_; clear _h y13; have tk2 : True := trivial)
            | (go_at_call 24; have _h := tk2; refine (is_any hJ13 hR12 hn12 (csOf cl st).st l12').mono ?_; rintro e w15 ⟨rfl, hb15⟩; clear _h tk2; rw [HB2 hbq]; have hF15 := hF13.below hb15; clear hF13; have hF13 := hF15)
            | (go_at_call 15; refine (awake_any hF13).mono ?_; rintro e w16 ⟨rfl, hF16⟩))
          · exact ⟨⟨k + 1, _, by omega, by go_num, HOKN.out _ w9 _ hcst hF9 HQ.out.1 HQ.out.2 hok9⟩, by simp [intOf]; omega⟩
          all_goals
            go_ret
            exact ⟨rfl, hF16.bel⟩
      · by_cases hk2 : kd = 2
        · subst hk2
          have honex := hones
          have hszx := hszss
          have hzm := hzs
          have HSY : Hid (Calls Tryd.prog 19 #[.pointer (some ⟨j, 0, none⟩)] (W1x wr st) (CP w.heap.size w bs bm wr.heap.size st st j dp (3 + 345 * k + 345))) := (sync_c hF1 hE hJ1 (by omega)).mono (fun e w' h => h.cp hx1 hx2 hx3)
          clear hS r3 hok hbs hbm hE hF1 hJ1 hx1 hx2 hx3 r1 r2 r2' q1 q1d qZ hszW HR HP HP3 hk1
          go_wp2_with (first
            | (have _h := hS0; refine wpList_load_row rfl 30 _ rfl bs rfl 30 (av st) (0, 0) _ hS0 Tryd.underlying30 rfl hzs ?_; clear _h hS0)
            | (have _h := ez; refine wpList_store_row rfl 30 _ _ rfl wr.heap.size (av st) rfl rfl 30 (av z30) ez hzs hszs hones ?_; clear _h ez)
            | (go_at_call 19; refine Calls.mono HSY.out ?_; rintro e w9 ⟨hF9, s9, m9, t9, hans2⟩; have HQ : Hid (Bx w9 bs st ∧ Bx w9 bm st) := ⟨s9, m9⟩; rcases hans2 with ⟨rfl, hok9⟩ | ⟨rfl, hoff⟩)
            | (have _h := t9; refine wpList_load_row rfl 30 _ rfl wr.heap.size rfl 30 (av st) (0, 0) _ t9 Tryd.underlying30 rfl hzs ?_; clear _h t9)
            | (have _h := hoff; refine wpList_store_row rfl 30 _ _ rfl bm (av st) rfl rfl 30 (av st) m9 hzs rfl honex ?_; clear _h m9 s9; have hTZ := HOFF.out _ w9 hst hF9 HQ.out.1 HQ.out.2 hoff; clear hoff)
            | (have _h := s9; refine wpList_store_row rfl 30 _ _ rfl bs (av st) rfl rfl 30 (av st) s9 hzs rfl honex ?_; have s10 := Bx.set s9 st; have m10 := Bx.oth m9 hne' (av st); clear _h s9 m9)
            | (have _h := s10; refine wpList_load_row rfl 30 _ rfl bs rfl 30 (av st) (0, 0) _ s10 Tryd.underlying30 rfl hzs ?_; clear _h s10)
            | (have _h := m10; refine wpList_store_row rfl 30 _ _ rfl bm (av st) rfl rfl 30 (av st) m10 hzs rfl honex ?_; clear _h m10)
            | (go_at_call 29; have _h := hTZ; refine Calls.mono (HTC.out _ st st hTZ) ?_; rintro e w11 ⟨c', rfl, hOP⟩; clear _h hTZ)
            | (go_at_call 31; have _h := hOP; refine Calls.mono hOP ?_; rintro e w12 ⟨dp2, j2, d2, T2, s2, rfl, hF12, x12, y12, l12, l12', hJ12, hR12, hn12, hs2⟩; clear _h hOP)
            | (have _h := x12; refine load_row_g rfl 30 _ rfl bs rfl 30 (av st) (0, 0) _ x12 Tryd.underlying30 rfl hzs ?_; clear _h x12; have tk1 : True := trivial)
            | (go_at_call 24; have _h := tk1; refine (is_any hJ12 hR12 hn12 st l12).mono ?_; rintro e w13 ⟨rfl, hb13⟩; clear _h tk1; have hF13 := hF12.below hb13; have hJ13 := hJ12.below hb13; have y13 := Bx.below y12 hb13; clear y12; have HB2 := HBB.out s2 st st hs2; obtain ⟨bq, hbq⟩ : ∃ b, isB (absS s2) st = b := ⟨_, rfl⟩; rw [hbq]; cases bq)
            | (have _h := y13; refine load_row_g rfl 30 _ rfl bm rfl 30 (av st) (0, 0) _ y13 Tryd.underlying30 rfl hzm ?_; clear _h y13; have tk2 : True := trivial)
            | (go_at_call 24; have _h := tk2; refine (is_any hJ13 hR12 hn12 st l12').mono ?_; rintro e w15 ⟨rfl, hb15⟩; clear _h tk2; rw [HB2 hbq]; have hF15 := hF13.below hb15; clear hF13; have hF13 := hF15)
            | (go_at_call 15; refine (awake_any hF13).mono ?_; rintro e w16 ⟨rfl, hF16⟩))
          · exact ⟨⟨k + 1, _, by omega, by go_num, HOKN.out _ w9 _ hst hF9 HQ.out.1 HQ.out.2 hok9⟩, by simp [intOf]; omega⟩
          all_goals
            go_ret
            exact ⟨rfl, hF16.bel⟩
        · have honex := hones
          have hszx := hszss
          have HFIN : Hid (QS w.heap.size w (((W1x wr st).setRow bs (av st)).setRow bm (av st)) bs bm st j dp (3 + 345 * (k + 1))) := HOKN.out st (W1x wr st) _ hst hF1 hx1 hx2 (hJ1.mono (by omega))
          have t9 : (W1x wr st).heap[wr.heap.size]? = some (.cells (av st) 30 (0, 0)) := hx3
          have s9 : (W1x wr st).heap[bs]? = some (.cells (av st) 30 (0, 0)) := hx1
          have m9 : (W1x wr st).heap[bm]? = some (.cells (av st) 30 (0, 0)) := hx2
          clear hS r3 hok hbs hbm hE hF1 hJ1 hx1 hx2 hx3 r1 r2 r2' q1 q1d qZ hszW HR HP HP3
          go_wp2_with (first
            | (have _h := hS0; refine wpList_load_row rfl 30 _ rfl bs rfl 30 (av st) (0, 0) _ hS0 Tryd.underlying30 rfl hzs ?_; clear _h hS0)
            | (have _h := ez; refine wpList_store_row rfl 30 _ _ rfl wr.heap.size (av st) rfl rfl 30 (av z30) ez hzs hszs hones ?_; clear _h ez; have t8 := t9; have s8 := s9)
            | (have _h := t8; refine wpList_load_row rfl 30 _ rfl wr.heap.size rfl 30 (av st) (0, 0) _ t9 Tryd.underlying30 rfl hzs ?_; clear _h t8)
            | (have _h := s8; refine wpList_store_row rfl 30 _ _ rfl bs (av st) rfl rfl 30 (av st) s9 hzs rfl honex ?_; have s10 := Bx.set s9 st; have m10 := Bx.oth m9 hne' (av st); clear _h s8)
            | (have _h := s10; refine wpList_load_row rfl 30 _ rfl bs rfl 30 (av st) (0, 0) _ s10 Tryd.underlying30 rfl hzs ?_; clear _h s10)
            | (have _h := m10; refine wpList_store_row rfl 30 _ _ rfl bm (av st) rfl rfl 30 (av st) m10 hzs rfl honex ?_; clear _h m10))
          exact ⟨⟨k + 1, _, by omega, by go_num, HFIN.out⟩, by simp [intOf]; omega⟩
    · obtain rfl : k = l0.length := by omega
      have hTZ := hS.tz
      have hzs := info30 st hS.2.2.2.2.2.2.1
      have hzm := hzs
      clear hS HR HP HP3
      go_wp2_with (first
        | (go_at_call 29; have _h := hTZ; refine Calls.mono (HTC.out _ st st hTZ) ?_; rintro e w11 ⟨c', rfl, hOP⟩; clear _h hTZ)
        | (go_at_call 31; have _h := hOP; refine Calls.mono hOP ?_; rintro e w12 ⟨dp2, j2, d2, T2, s2, rfl, hF12, x12, y12, l12, l12', hJ12, hR12, hn12, hs2⟩; clear _h hOP)
        | (have _h := x12; refine load_row_g rfl 30 _ rfl bs rfl 30 (av st) (0, 0) _ x12 Tryd.underlying30 rfl hzs ?_; clear _h x12; have tk1 : True := trivial)
        | (go_at_call 24; have _h := tk1; refine (is_any hJ12 hR12 hn12 st l12).mono ?_; rintro e w13 ⟨rfl, hb13⟩; clear _h tk1; have hF13 := hF12.below hb13; have hJ13 := hJ12.below hb13; have y13 := Bx.below y12 hb13; clear y12; have HB2 := HBB.out s2 st st hs2; obtain ⟨bq, hbq⟩ : ∃ b, isB (absS s2) st = b := ⟨_, rfl⟩; rw [hbq]; cases bq)
        | (have _h := y13; refine load_row_g rfl 30 _ rfl bm rfl 30 (av st) (0, 0) _ y13 Tryd.underlying30 rfl hzm ?_; clear _h y13; have tk2 : True := trivial)
        | (go_at_call 24; have _h := tk2; refine (is_any hJ13 hR12 hn12 st l12').mono ?_; rintro e w15 ⟨rfl, hb15⟩; clear _h tk2; rw [HB2 hbq]; have hF15 := hF13.below hb15; clear hF13; have hF13 := hF15)
        | (go_at_call 15; refine (awake_any hF13).mono ?_; rintro e w16 ⟨rfl, hF16⟩))
      all_goals
        go_ret
        exact ⟨rfl, hF16.bel⟩
end Go.Proofs.YtmodjgailmpfmaaDoor
