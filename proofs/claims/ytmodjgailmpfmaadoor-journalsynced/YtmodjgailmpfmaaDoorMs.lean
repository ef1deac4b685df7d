/- Lat Ls Ws in one text (wip/tools/merge4.py). -/
import Derived.Deep.RegionHeld3
import Derived.StillTail
import Derived.Test.YtmodjgailmpfmaaDoorLq
namespace Go.Proofs.YtmodjgailmpfmaaDoor
set_option linter.unusedSimpArgs false
set_option linter.unusedVariables false
section
variable {P : Program} {ops : Array Oper} {Q : Exit → Act → World → Prop} {md : Region.Mode} {S : World → Prop} {n : Nat}
/-- Whatever order; S behind every operation but those from number n on. -/
def Lat (P : Program) (md : Region.Mode) (ops : Array Oper) (Q : Exit → Act → World → Prop) (S : World → Prop) (n : Nat) : Nat → Array Bool → Act → World → Prop
  | 0, l, a, w => Region.ready md ops l = [] ∧ Q .normal a w
  | f + 1, l, a, w => (Region.ready md ops l = [] → Q .normal a w) ∧ ∀ i ∈ Region.ready md ops l, wpOp P ops Q i (fun a' w' => (i < n → S w') ∧ Lat P md ops Q S n f (l.setIfInBounds i true) a' w') a w
theorem Lat.any : ∀ (f : Nat) (l : Array Bool) (a : Act) (w : World), Lat P md ops Q S n f l a w → wpAny P md ops Q f l a w
  | 0, _, _, _, h => h
  | f + 1, _, _, _, h => ⟨h.1, fun i hi => wpOp_mono (fun a' w' h' => Lat.any f _ a' w' h'.2) (h.2 i hi)⟩
theorem Lat.first {i : Nat} {oi : Oper} {v : Value} (hi : ops[i]? = some oi) (hsel : ∀ (j : Nat) (o : Oper) cs b, ops[j]? = some o → o.op ≠ .select cs b)
    (hs : Region.sinkB md ops n = true) (hc : Region.chainB md ops n = true) (hn : n < ops.size) (hin : i < n) (hQ : ∀ c a w, Q (.panic c) (a.put oi.dst v) w → Q (.panic c) a w) (f : Nat) :
    ∀ (l : Array Bool) (a : Act) (w : World), HeadInv md ops n l → (∀ j oj, ops[j]? = some oj → j ≠ i → l.getD j true = false → (∀ e ∈ oj.after, Region.binds md e = true → e.on ≠ i) → oi.apart ops oj = true) →
      i ∈ Region.ready md ops l → YieldsIf P ops S oi v a → S w → Lat P md ops Q S n f (l.setIfInBounds i true) (a.put oi.dst v) w → Lat P md ops Q S n (f + 1) l a w := by
  induction f with
  | zero =>
    intro l a w inv hfree hr hy hS H
    refine ⟨fun h => absurd hr (by rw [h]; simp), fun j hj => ?_⟩
    by_cases hji : j = i
    · subst hji; exact hy.wpOp hi hS ⟨fun _ => hS, H⟩
    · exact absurd (ready_mono hj hji) (by rw [H.1]; simp)
  | succ f ih =>
    intro l a w inv hfree hr hy hS H
    refine ⟨fun h => absurd hr (by rw [h]; simp), fun j hj => ?_⟩
    have hun := (mem_ready.1 hr).1
    by_cases hji : j = i
    · subst hji; exact hy.wpOp hi hS ⟨fun _ => hS, H⟩
    have hjn : j < n := by
      rcases Nat.lt_or_ge j n with h | h
      · exact h
      · exact absurd hj (tail_waits hs hc hn inv _ i rfl hin hun j h)
    obtain ⟨hjun, oj, hoj, hall⟩ := mem_ready.1 hj
    have hnot : ∀ e ∈ oj.after, Region.binds md e = true → e.on ≠ i := fun e he hb heq => by
      have h1 := hall e he hb
      rw [heq, getD_both hun] at h1
      cases h1
    have h2 := wpOp_putIf hoj (hfree j oj hoj hji hjun hnot) (fun cs b => hsel i oi cs b hi) (fun cs b => hsel j oj cs b hoj) hQ hy (H.2 j (ready_mono hj hji))
    refine wpOp_mono (fun a' w' h3 => ⟨h3.2.1, ih _ a' w' (inv.set hj hjn) (fun k ok hk hki hun2 hno => hfree k ok hk hki ?_ hno) (ready_mono hr (Ne.symm hji)) h3.1 (h3.2.1 hjn) ?_⟩) h2
    · by_cases hjk : j = k
      · subst hjk; exact hjun
      · rw [getD_set_ne true hjk] at hun2; exact hun2
    · rw [Array.setIfInBounds_comm _ _ hji]
      exact h3.2.2
/-- The same, with what is listed closed. -/
def LatI (P : Program) (md : Region.Mode) (ops : Array Oper) (Q : Exit → Act → World → Prop) (S : World → Prop) (n f : Nat) (l : Array Bool) (a : Act) (w : World) : Prop := HeadInv md ops n l → Lat P md ops Q S n f l a w
theorem LatI.take {i : Nat} {oi : Oper} {v : Value} {f : Nat} {l : Array Bool} {a : Act} {w : World} (hi : ops[i]? = some oi) (hsel : Region.noSelect ops = true)
    (hs : (Region.sinkB md ops n && Region.chainB md ops n && decide (n < ops.size) && decide (i < n)) = true) (hf : Region.free md ops l i = true) (hr : (Region.ready md ops l).contains i = true)
    (hQ : ∀ c a w, Q (.panic c) (a.put oi.dst v) w → Q (.panic c) a w) (hy : YieldsIf P ops S oi v a) (hS : S w)
    (h : LatI P md ops Q S n f (l.setIfInBounds i true) (a.put oi.dst v) w) : LatI P md ops Q S n (f + 1) l a w := fun inv => by
  simp only [Bool.and_eq_true, decide_eq_true_eq] at hs
  obtain ⟨⟨⟨h1, h2⟩, h3⟩, h4⟩ := hs
  have hr' : i ∈ Region.ready md ops l := by simpa using hr
  exact Lat.first hi (Region.noSelect_spec hsel) h1 h2 h3 h4 hQ f l a w inv (Region.free_spec hi hf) hr' hy hS (h (inv.set hr' h4))
theorem LatI.one {i : Nat} {o : Oper} {f : Nat} {l : Array Bool} {a : Act} {w : World} (ho : ops[i]? = some o) (hr : Region.ready md ops l = [i]) (hin : i < n)
    (h : ∀ K : Act → World → Prop, Shut (∀ a w, S w → (S w → LatI P md ops Q S n f (l.setIfInBounds i true) a w) → K a w) → if Region.wanted o (yielded ops a.tmps) = true then Oper.wp P o a w K Q else K (a.put o.dst undef) w) :
    LatI P md ops Q S n (f + 1) l a w := fun inv => by
  refine ⟨fun h0 => absurd h0 (by rw [hr]; simp), fun j hj => ?_⟩
  rw [hr] at hj
  obtain rfl : j = i := by simpa using hj
  exact wpOp_step ho fun K hK => h K fun a w hS hW => hK a w ⟨fun _ => hS, hW hS (inv.set (by rw [hr]; simp) hin)⟩
/-- Two that are ready at once: either order. -/
theorem LatI.two {i j : Nat} {oi oj : Oper} {f : Nat} {l : Array Bool} {a : Act} {w : World} (hoi : ops[i]? = some oi) (hoj : ops[j]? = some oj) (hr : Region.ready md ops l = [i, j]) (hin : i < n) (hjn : j < n)
    (h1 : ∀ K : Act → World → Prop, Shut (∀ a w, S w → (S w → LatI P md ops Q S n f (l.setIfInBounds i true) a w) → K a w) → if Region.wanted oi (yielded ops a.tmps) = true then Oper.wp P oi a w K Q else K (a.put oi.dst undef) w)
    (h2 : ∀ K : Act → World → Prop, Shut (∀ a w, S w → (S w → LatI P md ops Q S n f (l.setIfInBounds j true) a w) → K a w) → if Region.wanted oj (yielded ops a.tmps) = true then Oper.wp P oj a w K Q else K (a.put oj.dst undef) w) :
    LatI P md ops Q S n (f + 1) l a w := fun inv => by
  refine ⟨fun h0 => absurd h0 (by rw [hr]; simp), fun k hk => ?_⟩
  have hk' := hk
  rw [hr] at hk
  rcases List.mem_cons.1 hk with rfl | hk
  · exact wpOp_step hoi fun K hK => h1 K fun a w hS hW => hK a w ⟨fun _ => hS, hW hS (inv.set hk' hin)⟩
  · obtain rfl : k = j := by simpa using hk
    exact wpOp_step hoj fun K hK => h2 K fun a w hS hW => hK a w ⟨fun _ => hS, hW hS (inv.set hk' hjn)⟩
theorem LatI.last {i : Nat} {o : Oper} {f : Nat} {l : Array Bool} {a : Act} {w : World} (ho : ops[i]? = some o) (hr : Region.ready md ops l = [i]) (hin : n ≤ i) (he : Region.ready md ops (l.setIfInBounds i true) = [])
    (h : ∀ K : Act → World → Prop, Shut (∀ a w, Q .normal a w → K a w) → if Region.wanted o (yielded ops a.tmps) = true then Oper.wp P o a w K Q else K (a.put o.dst undef) w) :
    LatI P md ops Q S n (f + 1) l a w := fun inv => by
  refine ⟨fun h0 => absurd h0 (by rw [hr]; simp), fun j hj => ?_⟩
  rw [hr] at hj
  obtain rfl : j = i := by simpa using hj
  refine wpOp_step ho fun K hK => h K fun a w hW => hK a w ⟨fun h => by omega, ?_⟩
  cases f with
  | zero => exact ⟨he, hW⟩
  | succ f => exact ⟨fun _ => hW, fun k hk => by rw [he] at hk; cases hk⟩
theorem wp_region_lat (S : World → Prop) (n : Nat) {id : Nat} {a : Act} {w : World} (hm : P.follows .mixedOrders = true) (hS : S w.drew) (h : S w.drew → LatI P .any ops Q S n ops.size (Array.replicate ops.size false) a w.drew) : (Code.region id ops true).wp P Q a w :=
  wp_region_any hm (Lat.any _ _ _ _ (h hS ⟨by simp, fun j oj _ hl => (by rw [getD_replicate_false] at hl; cases hl), fun t _ ht => getD_in (by simpa using ht) (getD_replicate_false _ _)⟩))
end
section
variable {P : Program} {L : List Oper} {Q : Exit → Act → World → Prop} {md : Region.Mode} {S : World → Prop} {n : Nat}
theorem drop_at {i : Nat} {o : Oper} {r : List Oper} (h : L.drop i = o :: r) : L.toArray[i]? = some o := by
  have : L[i]? = some o := by
    have h2 := congrArg (fun x => x[0]?) h
    simpa using h2
  simpa using this
theorem lat_take (i : Nat) {o : Oper} {r : List Oper} {v : Value} {f : Nat} {l : Array Bool} {a : Act} {w : World} (hi : L.drop i = o :: r) (hsel : Region.noSelect L.toArray = true)
    (hs : (Region.sinkB md L.toArray n && Region.chainB md L.toArray n && decide (n < L.toArray.size) && decide (i < n)) = true) (hf : Region.free md L.toArray l i = true) (hr : (Region.ready md L.toArray l).contains i = true)
    (hQ : ∀ c a w, Q (.panic c) (a.put o.dst v) w → Q (.panic c) a w) (hw : Region.wanted o (yielded L.toArray a.tmps) = true) (hy : ∀ w, S w → (execOp a.eval o).run P w = .ok (.value v) w) (hS : S w)
    (h : LatI P md L.toArray Q S n f (l.setIfInBounds i true) (a.put o.dst v) w) : LatI P md L.toArray Q S n (f + 1) l a w := LatI.take (drop_at hi) hsel hs hf hr hQ (.inl ⟨hw, hy⟩) hS h
theorem lat_one (i : Nat) {o : Oper} {r : List Oper} {f : Nat} {l : Array Bool} {a : Act} {w : World} (hi : L.drop i = o :: r) (hr : Region.ready md L.toArray l = [i]) (hin : i < n) (hw : Region.wanted o (yielded L.toArray a.tmps) = true)
    (h : ∀ K : Act → World → Prop, Shut (∀ a w, S w → (S w → LatI P md L.toArray Q S n f (l.setIfInBounds i true) a w) → K a w) → Oper.wp P o a w K Q) :
    LatI P md L.toArray Q S n (f + 1) l a w := LatI.one (drop_at hi) hr hin fun K hK => by rw [if_pos hw]; exact h K hK
theorem lat_two (i j : Nat) {oi oj : Oper} {ri rj : List Oper} {f : Nat} {l : Array Bool} {a : Act} {w : World} (hi : L.drop i = oi :: ri) (hj : L.drop j = oj :: rj) (hr : Region.ready md L.toArray l = [i, j]) (hin : i < n) (hjn : j < n) (hwi : Region.wanted oi (yielded L.toArray a.tmps) = true) (hwj : Region.wanted oj (yielded L.toArray a.tmps) = true)
    (h1 : ∀ K : Act → World → Prop, Shut (∀ a w, S w → (S w → LatI P md L.toArray Q S n f (l.setIfInBounds i true) a w) → K a w) → Oper.wp P oi a w K Q)
    (h2 : ∀ K : Act → World → Prop, Shut (∀ a w, S w → (S w → LatI P md L.toArray Q S n f (l.setIfInBounds j true) a w) → K a w) → Oper.wp P oj a w K Q) :
    LatI P md L.toArray Q S n (f + 1) l a w := LatI.two (drop_at hi) (drop_at hj) hr hin hjn (fun K hK => by rw [if_pos hwi]; exact h1 K hK) (fun K hK => by rw [if_pos hwj]; exact h2 K hK)
theorem lat_last (i : Nat) {o : Oper} {r : List Oper} {f : Nat} {l : Array Bool} {a : Act} {w : World} (hi : L.drop i = o :: r) (hr : Region.ready md L.toArray l = [i]) (hin : n ≤ i) (he : Region.ready md L.toArray (l.setIfInBounds i true) = []) (hw : Region.wanted o (yielded L.toArray a.tmps) = true)
    (h : ∀ K : Act → World → Prop, Shut (∀ a w, Q .normal a w → K a w) → Oper.wp P o a w K Q) :
    LatI P md L.toArray Q S n (f + 1) l a w := LatI.last (drop_at hi) hr hin he fun K hK => by rw [if_pos hw]; exact h K hK
end
end Go.Proofs.YtmodjgailmpfmaaDoor
namespace Go.Proofs.YtmodjgailmpfmaaDoor
set_option linter.unusedSimpArgs false
set_option linter.unusedVariables false
open Go.RowKit Go.MapKept Go.Proofs
theorem exec_load_row {P : Program} {o : Oper} {ev : Operand → Value} {w : World} (ty : TypeId) (x : Operand) (ho : o.op = .load ty x)
    (g : Nat) (hx : ev x = .pointer (some ⟨g, 0, none⟩)) (t : TypeId) (cs : Array Value) (fr : Nat × Nat) (d : TypeDesc) (hg : w.heap[g]? = some (.cells cs t fr))
    (hu : P.underlying ty = some d) (hd : (match d with | .struct _ | .array _ _ => true | _ => false) = true) (hi : (P.info? ty).map (·.size) = some cs.size) : (execOp ev o).run P w = .ok (.value (.agg cs)) w := by
  unfold execOp
  simp only [ho, hx, Instr.loadAt, Instr.sureAddr, Sem.run_bind, Sem.run_pure, Result.andThen_ok, run_loadVar_row w g t ty cs fr d hg hu hd hi]
/-- What changes leaves, with the equation in the open. -/
def ChgOut (w : World) (cl : List (Int × Int)) (st : List Int) (e : Ending) (w' : World) : Prop := ∃ v, e = .returned (.tuple #[v, .agg (av (csOf cl st).st)]) ∧ ChgPost w cl st e w'
theorem changes_out (la : Option Addr) (cap : Nat) (cl : List (Int × Int)) (st : List Int) (w : World) (hl : LRow w la cl) (hcl : cl.length ≤ 9223372036854775807) (hst : st.length = 30) :
    Calls Tryd.prog 17 #[.slice la cl.length cap, .agg (av st)] w (ChgOut w cl st) := (changes_any la cap cl st w hl hcl hst).mono (fun e w6 h => by obtain ⟨v, gs, rfl, _⟩ := id h; exact ⟨v, rfl, h⟩)
theorem ChgPost.bel {w w' : World} {cl : List (Int × Int)} {st : List Int} {e : Ending} (h : ChgPost w cl st e w') : Below w.heap.size w w' := by obtain ⟨v, gs, _, _, _, _, h⟩ := h; exact h
/-- The box first, the changes behind it. -/
theorem box_chg2 {B : Nat} {E : List Nat} {w4 w5 w6 : World} {j dp : Nat} {d : Dv} {T : List (List Nat)} {off : Bool} {cl : List (Int × Int)} {st : List Int} (hst : st.length = 30) {v x : Value} {Z : Array Value} (hF : Fr B E w4 w5) (hJ : JP B E w5 j dp d T off) (h6 : ChgPost (w5.alloc (.cells Z 30)) cl st (.returned (.tuple #[v, x])) w6) :
    x = .agg (av (csOf cl st).st) ∧ w6.heap[w5.heap.size]? = some (.cells Z 30 (0, 0)) ∧ ∃ E', (∀ y ∈ E, y ∈ E') ∧ w5.heap.size ∈ E' ∧ Fr B E' (w6.setRow w5.heap.size (av (csOf cl st).st)) (w6.setRow w5.heap.size (av (csOf cl st).st)) ∧ JP B E' (w6.setRow w5.heap.size (av (csOf cl st).st)) j dp d T off ∧ Chg E' (w6.setRow w5.heap.size (av (csOf cl st).st)) v (csOf cl st) ∧ (w6.setRow w5.heap.size (av (csOf cl st).st)).heap[w5.heap.size]? = some (.cells (av (csOf cl st).st) 30 (0, 0)) ∧ Below w5.heap.size w5 (w6.setRow w5.heap.size (av (csOf cl st).st)) := by
  obtain ⟨rfl, hb6, hv, Ex, hEx, hC⟩ := chg_of hst h6
  have b1 : Below w5.heap.size w5 (w5.alloc (.cells Z 30)) := (Below.refl _ _).alloc (Nat.le_refl _) _
  have e1 := heap_alloc_new w5 (.cells Z 30)
  have s1 : (w5.alloc (.cells Z 30)).heap.size = w5.heap.size + 1 := by show (w5.heap.push _).size = _; simp
  have hs6 := hb6.size
  have hx6 : w6.heap[w5.heap.size]? = some (.cells Z 30 (0, 0)) := (hb6.block _ (by omega)).trans e1
  have hb56 : Below w5.heap.size w5 w6 := b1.trans (hb6.mono (by omega))
  have k := keeps_setRow w6 w5.heap.size (av (csOf cl st).st)
  have hx8 : (w6.setRow w5.heap.size (av (csOf cl st).st)).heap[w5.heap.size]? = some (.cells (av (csOf cl st).st) 30 (0, 0)) := setRow_heap _ _ _ _ _ _ hx6
  have oth : ∀ y, y ≠ w5.heap.size → (w6.setRow w5.heap.size (av (csOf cl st).st)).heap[y]? = w6.heap[y]? := fun y hy => setRow_other _ _ _ _ hy
  have s8 : (w6.setRow w5.heap.size (av (csOf cl st).st)).heap.size = w6.heap.size := by simp
  have hb8 : Below w5.heap.size w5 (w6.setRow w5.heap.size (av (csOf cl st).st)) := hb56.trans ⟨rfl, rfl, rfl, by rw [s8]; exact Nat.le_refl _, fun y hy => oth y (by omega)⟩
  have hlt : ∀ y ∈ Ex ++ E, y < w6.heap.size ∧ y ≠ w5.heap.size := fun y hy => by
    rcases List.mem_append.1 hy with q | q
    · have := hEx y q; omega
    · have := hF.ltw y q; omega
  refine ⟨rfl, hx6, w5.heap.size :: (Ex ++ E), fun y hy => by simp [hy], by simp, (hF.below hb8).more (fun y hy => ?_), ((hJ.ext (fun y hy => ?_)).below hb56).keeps1 k (by simp), ((hC E).same (fun y hy => oth y (hlt y hy).2)).ext (fun y hy => List.mem_cons_of_mem _ hy), hx8, hb8⟩
  · rw [s8]
    rcases List.mem_cons.1 hy with rfl | hy
    · omega
    · exact (hlt y hy).1
  · rcases List.mem_cons.1 hy with rfl | hy
    · exact .inr (Nat.le_refl _)
    · rcases List.mem_append.1 hy with q | q
      · exact .inr (by have := (hEx y q).1; omega)
      · exact .inl q
theorem JS.commitB {B : Nat} {w wr w6 : World} {b : Nat} {st : List Int} {j dp M : Nat} (h : JS B w wr b st j dp M) (hM : M + 345 ≤ 1000000) {cl : List (Int × Int)} {v x : Value} {Z : Array Value} (h6 : ChgPost (wr.alloc (.cells Z 30)) cl st (.returned (.tuple #[v, x])) w6) :
    Calls Tryd.prog 18 #[.pointer (some ⟨j, 0, none⟩), v] (w6.setRow wr.heap.size (av (csOf cl st).st)) fun e w' => e = .returned (.int .i64 0) ∧ JM B w w' b wr.heap.size st (csOf cl st).st j dp (M + 345) := by
  obtain ⟨d, T, h1, h2, h3, h4, h5, hR, hn, hc, ho⟩ := h
  have hbl := (Array.getElem?_eq_some_iff.1 h3).1
  have hFb : Fr B [b] wr wr := h1.more (fun x hx => by simp at hx; omega)
  obtain ⟨rfl, hx6, E', hE1, hE2, hF8, hJ8, hC8, hx8, hb8⟩ := box_chg2 h4 hFb h5 h6
  have hok := csOk cl st h4
  refine (commitG hF8 hJ8 hR hn hC8 hok (by omega)).mono ?_
  rintro e w' ⟨c, rfl, q⟩
  rcases q with ⟨rfl, hF', d', T', hJ', hR', hx⟩ | ⟨rfl, hF', d', T', hJ', hS', hx, hcut⟩
  · refine ⟨rfl, d', T', (h1.below hb8).trans hF' (by simp), h2, ?_, h4, (hF'.same _ hE2).trans hx8, hok.stl, hJ'.ext (fun y hy => .inl (hE1 y hy)), hR', hx.n.trans hn, hx.cut.trans hc, by have := hx.ops; omega⟩
    rw [hF'.same b (hE1 b (by simp)), hb8.block b hbl]; exact h3
  · rw [hx.cut, hc] at hcut; cases hcut
/-- Nothing pending: a crash leaves all as it is. -/
theorem rest_crash0 {d : Dv} {s : Nat → List Nat} (h : Rest d [] s) (l : List Int) : Rest (d.crash l) [] s := by
  have hb : ∀ k, (d.crash l).base k = d.base k := fun k => by
    rcases crash_left d l k with e | e
    · exact e
    · rw [h.none k] at e; cases e
  exact ⟨⟨h.ph.n246, h.ph.good, (hb 0).trans h.ph.tab, rfl, fun k h1 h2 => ⟨(hb _).trans (h.ph.view k h1 h2).1, rfl⟩⟩, fun _ => rfl⟩
end Go.Proofs.YtmodjgailmpfmaaDoor
namespace Go.Proofs.YtmodjgailmpfmaaDoor
set_option linter.unusedSimpArgs false
set_option linter.unusedVariables false
open Go.RowKit Go.MapKept Go.Proofs
/-- A device in whose homes the state stands. -/
def SX (B : Nat) (w wr : World) (b : Nat) (st : List Int) (c : Nat) : Prop :=
  Fr B [] w wr ∧ B ≤ b ∧ wr.heap[b]? = some (.cells (av st) 30 (0, 0)) ∧ st.length = 30 ∧ ∃ d, DP B [b] wr c d ∧ Rest d [] (absS st) ∧ d.n = 275 ∧ d.cut = false ∧ d.ops = 0
theorem SX.below {B : Nat} {w wr w' : World} {b : Nat} {st : List Int} {c : Nat} (h : SX B w wr b st c) (hb : Below wr.heap.size wr w') : SX B w w' b st c := by
  obtain ⟨h1, h2, h3, h4, d, h5, h6⟩ := h
  exact ⟨h1.below hb, h2, (hb.block b (Array.getElem?_eq_some_iff.1 h3).1).trans h3, h4, d, h5.below hb, h6⟩
theorem JSy.crash {B : Nat} {w wr : World} {b : Nat} {st : List Int} {j dp M : Nat} (h : JSy B w wr b st j dp M) (a : Option Addr) (l : List Int) (cap : Nat) (hl : RowI wr a l) (hll : l.length ≤ 9223372036854775807) :
    Calls Tryd.prog 29 #[.pointer (some ⟨dp, 0, none⟩), .slice a l.length cap] wr fun e w' => ∃ c, e = .returned (.pointer (some ⟨c, 0, none⟩)) ∧ SX B w w' b st c := by
  obtain ⟨⟨_, _, h1, h2, h3, h4, _⟩, d, hD, hR, hn⟩ := h
  have hbl := (Array.getElem?_eq_some_iff.1 h3).1
  have hFb : Fr B [b] wr wr := h1.more (fun x hx => by simp at hx; omega)
  refine (crashF hFb hD a l cap hl hll).mono ?_
  rintro e w' ⟨c, rfl, g1, g2, _⟩
  exact ⟨c, rfl, h1.trans g1 (by simp), h2, (g1.same b (by simp)).trans h3, h4, _, g2, rest_crash0 hR l, hn, rfl, rfl⟩
theorem SX.read {B : Nat} {w wr : World} {b : Nat} {st : List Int} {c : Nat} (h : SX B w wr b st c) (x : Nat) (hx : x < 30) :
    Calls Tryd.prog 20 #[.pointer (some ⟨c, 0, none⟩), .int .i64 (245 + (x : Int))] wr fun e w' => ∃ g, e = .returned (.tuple #[.slice (some ⟨g, 0, none⟩) 512 512, .int .i64 0]) ∧ Full w' g 81 (bb (st.getD x 0)) ∧ Below wr.heap.size wr w' := by
  obtain ⟨h1, h2, h3, h4, d, h5, h6, h7, _⟩ := h
  have := home_read h5 h6 (245 + x) (by omega) (by omega)
  rw [show ((245 + x : Nat) : Int) = 245 + (x : Int) by omega] at this
  refine this.mono ?_
  rintro e w' ⟨g, rfl, q1, _, q2⟩
  refine ⟨g, rfl, ?_, q2⟩
  rw [show absS st (245 + x) = bb (st.getD x 0) by unfold absS; rw [Nat.add_sub_cancel_left]] at q1
  exact q1
theorem SX.cell {B : Nat} {w wr : World} {b : Nat} {st : List Int} {c : Nat} (h : SX B w wr b st c) (x : Nat) (hx : x < 30) : wr.cell? ⟨b, x, none⟩ = some (.int .i64 (st.getD x 0)) := by
  rw [cell_of_row _ _ _ _ _ _ h.2.2.1]; exact av_get _ _ (by have := h.2.2.2.1; omega)
theorem SX.opened {B : Nat} {w wr : World} {b : Nat} {st : List Int} {c : Nat} (h : SX B w wr b st c) :
    Calls Tryd.prog 31 #[.pointer (some ⟨c, 0, none⟩), .slice none 0 0, .slice none 0 0] wr (JOpen B w b st) := by
  obtain ⟨h1, h2, h3, h4, d, h5, h6, h7, h8, h9⟩ := h
  have hbl := (Array.getElem?_eq_some_iff.1 h3).1
  have hFb : Fr B [b] wr wr := h1.more (fun x hx => by simp at hx; omega)
  refine (opened_any hFb h5 h6 h8 h9 none none 0 0 [] [] (fun _ _ => RowI.nil _ _) (fun _ _ => RowI.nil _ _) (by simp) (by simp)).mono ?_
  rintro e w'' ⟨dp', j', d', T'', rfl, q1, q2, q3, q4, q5, q6⟩
  exact ⟨dp', j', rfl, d', T'', h1.trans q1 (by simp), h2, (q1.same b (by simp)).trans h3, h4, q2, q3, q4.trans h7, q5, q6⟩
set_option maxRecDepth 100000 in
set_option maxHeartbeats 3000000 in
theorem journalSynced_walk (a0 : Option Addr) (cap0 : Nat) (l0 : List Stp) (a1 : Option Addr) (cap1 : Nat) (l1 : List Int) (w : World) (ht : Tab w) (w0 : SRow w a0 l0) (m0 : l0.length ≤ 9223372036854775807) (w1 : RowI w a1 l1) (m1 : l1.length ≤ maxLen) :
    Calls Tryd.prog 10 #[.slice a0 l0.length cap0, .slice a1 l1.length cap1] w fun e w' => e = .returned (.bool true) ∧ Below w.heap.size w w' := by
  have hF := Fr.law ht
  have HAW : Hid _ := awake_any hF
  have HF : Hid _ := fresh_any hF
  have m0I : (l0.length : Int) ≤ 9223372036854775807 := by omega
  have m1n : l1.length ≤ 9223372036854775807 := by unfold maxLen at m1; omega
  have m1I : (l1.length : Int) ≤ 9223372036854775807 := by omega
  have HSM : Hid _ := small_any a0 cap0 l0 w w0 m0
  have HR : Hid (∀ w', Fr w.heap.size [] w w' → SRow w' a0 l0) := fun w' h => w0.below h.bel
  have HP : Hid (∀ w', Fr w.heap.size [] w w' → RowI w' a1 l1) := fun w' h i hi => by
    obtain ⟨b, off, e, h1, h2⟩ := w1 i hi
    exact ⟨b, off, e, by rw [h.bel.cell (World.block_lt_of_cell? _ _ h1)]; exact h1, h2⟩
  clear hF ht w0 w1 m1
  go_enter Tryd.func10, Tryd.ntmps10
  go_wp2_with (first
    | (go_at_call 14; refine Calls.mono HSM.out ?_; rintro e w2 ⟨bs, rfl, hb40, hw⟩; subst w2; have HB40 : Hid (bs = true → l0.length ≤ 40) := hb40; clear hb40; cases bs)
    | (go_at_call 15; refine Calls.mono HAW.out ?_; rintro e wA ⟨rfl, hFA⟩)
    | (go_at_call 16; refine Calls.mono HF.out ?_; rintro e w3 ⟨dp, j, d, rfl, hF3, hJ3, hR3, hn3, hc3, ho3⟩; have hJS := JS.fresh hF3 hJ3 hR3 hn3 hc3 ho3; clear hF3 hJ3 hR3 hn3 hc3 ho3))
  · go_ret
    exact ⟨rfl, hFA.bel⟩
  · go_ret
    exact ⟨rfl, hFA.bel⟩
  have h40 : l0.length ≤ 40 := HB40.out (by trivial)
  have h40I : (l0.length : Int) ≤ 40 := by omega
  have HJS : Hid (JS w.heap.size w (w3.alloc (.cells (av z30) 30)) w3.heap.size z30 j dp 3) := hJS
  clear hJS HF HAW HSM HB40
  obtain ⟨bx, HBX⟩ : ∃ bx, Hid (w3.heap.size = bx) := ⟨_, rfl⟩
  have hBX := HBX.out
  have HJS2 : Hid (JS w.heap.size w (w3.alloc (.cells (av z30) 30)) bx z30 j dp 3) := by rw [← hBX]; exact HJS.out
  rw [hBX]
  clear HJS hBX HBX
  go_loopw [9] (fun i wr => ∃ k st, k ≤ l0.length ∧ i = .int .i64 ((k : Nat) : Int) ∧ JS w.heap.size w wr bx st j dp (3 + 345 * k)) (fun i _ => l0.length - (intOf i).toNat)
  case atStart => exact ⟨0, z30, by omega, rfl, HJS2.out⟩
  case round =>
    clear HJS2
    obtain ⟨k, st, hk, rfl, hS⟩ := hrel
    by_cases hlt : k < l0.length
    · have hltI : (k : Int) < (l0.length : Int) := by omega
      obtain ⟨lk, off, rfl, r1, r2, r3, r4⟩ := HR.out wr hS.fr k hlt
      generalize l0.getD k stp0 = sp at *
      obtain ⟨kd, ca, cl, ccap⟩ := sp
      dsimp only at r1 r2 r3 r4
      have hst := hS.len
      have hok := csOk cl st hst
      have hzs := info30 st hst
      have hz2c := info30 _ hok.stl
      have hone := av_one (csOf cl st).st
      have hsz : (av z30).size = (av (csOf cl st).st).size := by rw [av_size, av_size, hok.stl]; rfl
      have hsz2 : (av st).size = (av (csOf cl st).st).size := by rw [av_size, av_size, hok.stl, hst]
      have hbx := hS.box
      have hbl := (Array.getElem?_eq_some_iff.1 hbx).1
      have hltk := World.block_lt_of_cell? _ _ r2
      have hDb : Below wr.heap.size wr wr.drew := ⟨rfl, rfl, rfl, Nat.le_refl _, fun _ _ => rfl⟩
      have hSd := hS.below hDb
      have HSx : Hid (∀ x, Below wr.heap.size wr x → x.cell? ⟨lk, off + k * 2 + 1, none⟩ = some (.slice ca cl.length ccap) ∧ x.heap[bx]? = some (.cells (av st) 30 (0, 0)) ∧ Below wr.heap.size wr x) := fun x hb => ⟨by rw [hb.cell hltk]; exact r2, (hb.block bx hbl).trans hbx, hb⟩
      have HCC : Hid (∀ wx, Below wr.heap.size wr wx → Calls Tryd.prog 17 #[.slice ca cl.length ccap, .agg (av st)] wx (ChgOut wx cl st)) := fun wx hb => changes_out ca ccap cl st wx (r3.below hb) r4 hst
      have hwk : IntKind.i64.wrap (k : Int) = (k : Int) := wrap_small _ (by omega) (by omega)
      have hkI0 : (0 : Int) ≤ (k : Int) := by omega
      have HCMA : Hid (∀ w6 v, ChgPost wr.drew cl st (.returned (.tuple #[v, .agg (av (csOf cl st).st)])) w6 → Calls Tryd.prog 18 #[.pointer (some ⟨j, 0, none⟩), v] ((w6.alloc (.cells (av z30) 30)).setRow w6.heap.size (av (csOf cl st).st)) fun e w' => e = .returned (.int .i64 0) ∧ JM w.heap.size w w' bx w6.heap.size st (csOf cl st).st j dp (3 + 345 * k + 345)) := fun w6 v h6 => hSd.commit (by omega) h6 (av z30)
      have HCMB : Hid (∀ w6 v, ChgPost (wr.drew.alloc (.cells (av z30) 30)) cl st (.returned (.tuple #[v, .agg (av (csOf cl st).st)])) w6 → Calls Tryd.prog 18 #[.pointer (some ⟨j, 0, none⟩), v] (w6.setRow wr.heap.size (av (csOf cl st).st)) fun e w' => e = .returned (.int .i64 0) ∧ JM w.heap.size w w' bx wr.heap.size st (csOf cl st).st j dp (3 + 345 * k + 345)) := fun w6 v h6 => hSd.commitB (by omega) h6
      have HNEXT : Hid (∀ w9 b2, JM w.heap.size w w9 bx b2 st (csOf cl st).st j dp (3 + 345 * k + 345) → JS w.heap.size w (w9.setRow bx (av (csOf cl st).st)) bx (csOf cl st).st j dp (3 + 345 * (k + 1))) := fun w9 b2 h => h.store.mono (by omega)
      clear hS hSd r3 r1 hok hst hbx hbl hltk r2 HR HP
      go_wp2
      refine wp_region_lat (fun x => x.cell? ⟨lk, off + k * 2 + 1, none⟩ = some (.slice ca cl.length ccap) ∧ x.heap[bx]? = some (.cells (av st) 30 (0, 0)) ∧ Below wr.heap.size wr x) 12 (by kernel_rfl) (HSx.out wr.drew hDb) (fun hHeld => ?_)
      refine lat_take 0 (v := ?_) rfl (by kernel_rfl) (by kernel_rfl) (by kernel_rfl) (by kernel_rfl) (fun _ _ _ h => h) (by rfl) ?_ (by assumption) ?_
      rotate_left
      · (intro w hSw; (try dsimp only at hSw); go_simp <;> with_reducible rfl)
      try simp only [Act.put, List.setIfInBounds_toArray, List.set_cons_zero, List.set_cons_succ]
      refine lat_take 1 (v := ?_) rfl (by kernel_rfl) (by kernel_rfl) (by kernel_rfl) (by kernel_rfl) (fun _ _ _ h => h) (by rfl) ?_ (by assumption) ?_
      rotate_left
      · (intro w hSw; (try dsimp only at hSw); go_simp <;> with_reducible rfl)
      try simp only [Act.put, List.setIfInBounds_toArray, List.set_cons_zero, List.set_cons_succ]
      refine lat_take 2 (v := ?_) rfl (by kernel_rfl) (by kernel_rfl) (by kernel_rfl) (by kernel_rfl) (fun _ _ _ h => h) (by rfl) ?_ (by assumption) ?_
      rotate_left
      · (intro w hSw; (try dsimp only at hSw); go_simp <;> with_reducible rfl)
      try simp only [Act.put, List.setIfInBounds_toArray, List.set_cons_zero, List.set_cons_succ]
      refine lat_take 3 (v := ?_) rfl (by kernel_rfl) (by kernel_rfl) (by kernel_rfl) (by kernel_rfl) (fun _ _ _ h => h) (by rfl) ?_ (by assumption) ?_
      rotate_left
      · (intro w hSw; (try dsimp only at hSw); go_simp <;> with_reducible rfl)
      try simp only [Act.put, List.setIfInBounds_toArray, List.set_cons_zero, List.set_cons_succ]
      refine lat_take 4 (v := ?_) rfl (by kernel_rfl) (by kernel_rfl) (by kernel_rfl) (by kernel_rfl) (fun _ _ _ h => h) (by rfl) ?_ (by assumption) ?_
      rotate_left
      · (intro w hSw; (try dsimp only at hSw); go_simp <;> with_reducible rfl)
      try simp only [Act.put, List.setIfInBounds_toArray, List.set_cons_zero, List.set_cons_succ]
      refine lat_take 5 (v := .agg (av st)) rfl (by kernel_rfl) (by kernel_rfl) (by kernel_rfl) (by kernel_rfl) (fun _ _ _ h => h) (by rfl) (fun w hSw => exec_load_row 30 _ rfl bx rfl 30 (av st) (0, 0) _ hSw.2.1 Tryd.underlying30 rfl hzs) (by assumption) ?_
      try simp only [Act.put, List.setIfInBounds_toArray, List.set_cons_zero, List.set_cons_succ]
      refine lat_two 6 10 rfl rfl (by kernel_rfl) (by decide) (by decide) (by rfl) (by rfl) (fun K hK => ?_) (fun K hK => ?_)
      · go_simp
        refine Calls.mono (HCC.out wr.drew hDb) ?_
        rintro e w6 ⟨v, rfl, h6⟩
        have hb6 : Below wr.heap.size wr w6 := hDb.trans (h6.bel.mono (Nat.le_refl _))
        dsimp only
        refine hK.out _ _ (HSx.out w6 hb6) (fun hHeld2 => ?_)
        clear hK hHeld
        try simp only [Act.put, List.setIfInBounds_toArray, List.set_cons_zero, List.set_cons_succ]
        refine lat_take 7 (v := ?_) rfl (by kernel_rfl) (by kernel_rfl) (by kernel_rfl) (by kernel_rfl) (fun _ _ _ h => h) (by rfl) ?_ (by assumption) ?_
        rotate_left
        · (intro w hSw; (try dsimp only at hSw); go_simp <;> with_reducible rfl)
        try simp only [Act.put, List.setIfInBounds_toArray, List.set_cons_zero, List.set_cons_succ]
        refine lat_take 8 (v := ?_) rfl (by kernel_rfl) (by kernel_rfl) (by kernel_rfl) (by kernel_rfl) (fun _ _ _ h => h) (by rfl) ?_ (by assumption) ?_
        rotate_left
        · (intro w hSw; (try dsimp only at hSw); go_simp <;> with_reducible rfl)
        try simp only [Act.put, List.setIfInBounds_toArray, List.set_cons_zero, List.set_cons_succ]
        refine lat_take 9 (v := ?_) rfl (by kernel_rfl) (by kernel_rfl) (by kernel_rfl) (by kernel_rfl) (fun _ _ _ h => h) (by rfl) ?_ (by assumption) ?_
        rotate_left
        · (intro w hSw; (try dsimp only at hSw); go_simp <;> with_reducible rfl)
        try simp only [Act.put, List.setIfInBounds_toArray, List.set_cons_zero, List.set_cons_succ]
        refine lat_one 10 rfl (by kernel_rfl) (by decide) (by rfl) (fun K hK => ?_)
        go_simp
        have hb7 : Below wr.heap.size wr (w6.alloc (.cells (av z30) 30)) := hb6.alloc hb6.size _
        refine hK.out _ _ (HSx.out _ hb7) (fun hHeld3 => ?_)
        clear hK hHeld2
        try simp only [Act.put, List.setIfInBounds_toArray, List.set_cons_zero, List.set_cons_succ]
        refine lat_take 11 (v := ?_) rfl (by kernel_rfl) (by kernel_rfl) (by kernel_rfl) (by kernel_rfl) (fun _ _ _ h => h) (by rfl) ?_ (by assumption) ?_
        rotate_left
        · (intro w hSw; (try dsimp only at hSw); go_simp <;> with_reducible rfl)
        try simp only [Act.put, List.setIfInBounds_toArray, List.set_cons_zero, List.set_cons_succ]
        refine lat_last 12 rfl (by kernel_rfl) (by decide) (by kernel_rfl) (by rfl) (fun K hK => ?_)
        refine wp_store_row 30 _ _ rfl w6.heap.size (av (csOf cl st).st) rfl rfl 30 (av z30) (heap_alloc_new w6 (.cells (av z30) 30)) hz2c hsz hone (hK.out _ _ ?_)
        have HCM := HCMA.out w6 v h6
        clear hK hHeld3 h6 hb6 hb7
        try simp only [Act.put, List.setIfInBounds_toArray, List.set_cons_zero, List.set_cons_succ]
        go_wp2_with (first
          | (go_at_call 18; refine Calls.mono HCM ?_; rintro e w9 ⟨rfl, hM9⟩; clear HCM; obtain ⟨x9, y9, _, _⟩ := hM9.box; have hS9 := HNEXT.out w9 _ hM9; clear hM9)
          | (have _h := y9; refine wpList_load_row rfl 30 _ rfl w6.heap.size rfl 30 (av (csOf cl st).st) (0, 0) _ y9 Tryd.underlying30 rfl hz2c ?_; clear _h y9)
          | (have _h := x9; refine wpList_store_row rfl 30 _ _ rfl bx (av (csOf cl st).st) rfl rfl 30 (av st) x9 hz2c hsz2 hone ?_; clear _h x9))
        exact ⟨⟨k + 1, _, by omega, by go_num, hS9⟩, by simp [intOf]; omega⟩
      · go_simp
        have hb5 : Below wr.heap.size wr (wr.drew.alloc (.cells (av z30) 30)) := hDb.alloc hDb.size _
        refine hK.out _ _ (HSx.out _ hb5) (fun hHeld2 => ?_)
        clear hK hHeld
        try simp only [Act.put, List.setIfInBounds_toArray, List.set_cons_zero, List.set_cons_succ]
        refine lat_one 6 rfl (by kernel_rfl) (by decide) (by rfl) (fun K hK => ?_)
        go_simp
        refine Calls.mono (HCC.out (wr.drew.alloc (.cells (av z30) 30)) hb5) ?_
        rintro e w6 ⟨v, rfl, h6⟩
        have hb6 : Below wr.heap.size wr w6 := hb5.trans (h6.bel.mono hb5.size)
        dsimp only
        refine hK.out _ _ (HSx.out w6 hb6) (fun hHeld3 => ?_)
        clear hK hHeld2
        try simp only [Act.put, List.setIfInBounds_toArray, List.set_cons_zero, List.set_cons_succ]
        refine lat_take 7 (v := ?_) rfl (by kernel_rfl) (by kernel_rfl) (by kernel_rfl) (by kernel_rfl) (fun _ _ _ h => h) (by rfl) ?_ (by assumption) ?_
        rotate_left
        · (intro w hSw; (try dsimp only at hSw); go_simp <;> with_reducible rfl)
        try simp only [Act.put, List.setIfInBounds_toArray, List.set_cons_zero, List.set_cons_succ]
        refine lat_take 8 (v := ?_) rfl (by kernel_rfl) (by kernel_rfl) (by kernel_rfl) (by kernel_rfl) (fun _ _ _ h => h) (by rfl) ?_ (by assumption) ?_
        rotate_left
        · (intro w hSw; (try dsimp only at hSw); go_simp <;> with_reducible rfl)
        try simp only [Act.put, List.setIfInBounds_toArray, List.set_cons_zero, List.set_cons_succ]
        refine lat_take 9 (v := ?_) rfl (by kernel_rfl) (by kernel_rfl) (by kernel_rfl) (by kernel_rfl) (fun _ _ _ h => h) (by rfl) ?_ (by assumption) ?_
        rotate_left
        · (intro w hSw; (try dsimp only at hSw); go_simp <;> with_reducible rfl)
        try simp only [Act.put, List.setIfInBounds_toArray, List.set_cons_zero, List.set_cons_succ]
        refine lat_take 11 (v := ?_) rfl (by kernel_rfl) (by kernel_rfl) (by kernel_rfl) (by kernel_rfl) (fun _ _ _ h => h) (by rfl) ?_ (by assumption) ?_
        rotate_left
        · (intro w hSw; (try dsimp only at hSw); go_simp <;> with_reducible rfl)
        try simp only [Act.put, List.setIfInBounds_toArray, List.set_cons_zero, List.set_cons_succ]
        have e6 : w6.heap[wr.heap.size]? = some (.cells (av z30) 30 (0, 0)) := (h6.bel.block _ (by show wr.heap.size < (wr.heap.push _).size; simp)).trans (heap_alloc_new wr.drew (.cells (av z30) 30))
        refine lat_last 12 rfl (by kernel_rfl) (by decide) (by kernel_rfl) (by rfl) (fun K hK => ?_)
        refine wp_store_row 30 _ _ rfl wr.heap.size (av (csOf cl st).st) rfl rfl 30 (av z30) e6 hz2c hsz hone (hK.out _ _ ?_)
        have HCM := HCMB.out w6 v h6
        clear hK hHeld3 h6 hb6 hb5 e6
        try simp only [Act.put, List.setIfInBounds_toArray, List.set_cons_zero, List.set_cons_succ]
        go_wp2_with (first
          | (go_at_call 18; refine Calls.mono HCM ?_; rintro e w9 ⟨rfl, hM9⟩; clear HCM; obtain ⟨x9, y9, _, _⟩ := hM9.box; have hS9 := HNEXT.out w9 _ hM9; clear hM9)
          | (have _h := y9; refine wpList_load_row rfl 30 _ rfl wr.heap.size rfl 30 (av (csOf cl st).st) (0, 0) _ y9 Tryd.underlying30 rfl hz2c ?_; clear _h y9)
          | (have _h := x9; refine wpList_store_row rfl 30 _ _ rfl bx (av (csOf cl st).st) rfl rfl 30 (av st) x9 hz2c hsz2 hone ?_; clear _h x9))
        exact ⟨⟨k + 1, _, by omega, by go_num, hS9⟩, by simp [intOf]; omega⟩
    · obtain rfl : k = l0.length := by omega
      have HSY : Hid (Calls Tryd.prog 19 #[.pointer (some ⟨j, 0, none⟩)] wr fun e w' => e = .returned (.int .i64 0) ∧ JSy w.heap.size w w' bx st j dp (3 + 345 * l0.length + 345)) := hS.sync (by omega)
      have HCR : Hid (∀ wx M, JSy w.heap.size w wx bx st j dp M → Calls Tryd.prog 29 #[.pointer (some ⟨dp, 0, none⟩), .slice a1 l1.length cap1] wx fun e w' => ∃ c, e = .returned (.pointer (some ⟨c, 0, none⟩)) ∧ SX w.heap.size w w' bx st c) := fun wx M h => h.crash a1 l1 cap1 (HP.out wx h.1.fr) m1n
      have hzs := info30 st hS.len
      clear hS HR HP
      go_wp2_with (first
        | (go_at_call 19; refine Calls.mono HSY.out ?_; rintro e w4 ⟨rfl, hY4⟩)
        | (go_at_call 29; refine Calls.mono (HCR.out w4 _ hY4) ?_; rintro e w5 ⟨c, rfl, hX5⟩; clear hY4))
      have HX5 : Hid (SX w.heap.size w w5 bx st c) := hX5
      clear hX5 HSY HCR
      go_loopw [13] (fun i wr => ∃ x, x ≤ 30 ∧ i = .int .i64 ((x : Nat) : Int) ∧ SX w.heap.size w wr bx st c) (fun i _ => 30 - (intOf i).toNat)
      case atStart => exact ⟨0, by omega, rfl, HX5.out⟩
      case round =>
        clear HX5
        obtain ⟨x, hx, rfl, hX⟩ := hrel
        by_cases hlt : x < 30
        · have hltI : (x : Int) < 30 := by omega
          have HRD : Hid _ := hX.read x hlt
          have HX : Hid (SX w.heap.size w wr bx st c) := hX
          have HCE : Hid (∀ w', Below wr.heap.size wr w' → w'.cell? ⟨bx, x, none⟩ = some (.int .i64 (st.getD x 0))) := fun w' hb => (hX.below hb).cell x hlt
          clear hX
          generalize st.getD x 0 = Z at *
          go_wp2_with (first
            | (go_at_call 20; refine Calls.mono HRD.out ?_; rintro e w6 ⟨g6, rfl, hg6, hb6⟩; have cz := HCE.out w6 hb6)
            | (go_at_call 22; refine (block_any Z _).mono ?_; rintro e w7 ⟨g7, rfl, hg7, _, hb7⟩; have hg6' := hg6.below hb7)
            | (go_at_call 21; refine (bytesF hg6' hg7 (bb_len Z) (bb_len Z) (bb_lt Z) (bb_lt Z)).mono ?_; rintro e w8 ⟨rfl, hb8⟩; rw [decide_eq_true rfl]))
          exact ⟨⟨x + 1, by omega, by go_num, SX.below (SX.below (SX.below HX.out hb6) hb7) hb8⟩, by simp [intOf]; omega⟩
        · obtain rfl : x = 30 := by omega
          have HOP : Hid (Calls Tryd.prog 31 #[.pointer (some ⟨c, 0, none⟩), .slice none 0 0, .slice none 0 0] wr (JOpen w.heap.size w bx st)) := hX.opened
          clear hX
          go_wp2_with (first
            | (go_at_call 31; refine Calls.mono HOP.out ?_; rintro e w6 ⟨dp', j', rfl, hS6⟩; have x6 := hS6.box)
            | (have _h := x6; refine load_row_g rfl 30 _ rfl bx rfl 30 (av st) (0, 0) _ x6 Tryd.underlying30 rfl hzs ?_; clear _h x6)
            | (go_at_call 24; refine hS6.is.mono ?_; rintro e w7 ⟨rfl, hS7⟩; have hF7 := hS7.fr)
            | (go_at_call 15; refine (awake_any hF7).mono ?_; rintro e w8 ⟨rfl, hF8⟩))
          go_ret
          exact ⟨rfl, hF8.bel⟩
end Go.Proofs.YtmodjgailmpfmaaDoor
