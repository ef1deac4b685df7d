/- The laws' pieces: a state's box. -/
import Derived.Test.YtmodjgailmpfmaaDoorLo
namespace Go.Proofs.YtmodjgailmpfmaaDoor
set_option linter.unusedSimpArgs false
set_option linter.unusedVariables false
open Go.RowKit Go.MapKept Go.Proofs
def z30 : List Int := List.replicate 30 0
theorem z30_len : z30.length = 30 := rfl
theorem rest_z30 {d : Dv} {T : List (List Nat)} (h : Rest d T zs0) : Rest d T (absS z30) := h.congr (fun k _ _ => by
  show zeros = bb (z30.getD (k - 245) 0)
  have : z30.getD (k - 245) 0 = 0 := by
    unfold z30
    simp only [List.getD, List.getElem?_replicate]
    split <;> rfl
  rw [this]; decide +kernel)
theorem av_size (st : List Int) : (av st).size = st.length := by simp [av]
theorem av_one (st : List Int) : (av st).all (·.oneCell') = true := by
  simp only [av, List.all_toArray, List.all_eq_true]
  intro u hu2
  obtain ⟨_, _, rfl⟩ := List.mem_map.1 hu2
  rfl
theorem info30 (st : List Int) (h : st.length = 30) : (Tryd.prog.info? 30).map (·.size) = some (av st).size := by rw [av_size, h]; kernel_rfl
theorem isB_self (st : List Int) : isB (absS st) st = true := isB_yes fun k _ => by
  show bb (st.getD (245 + k - 245) 0) = _
  rw [Nat.add_sub_cancel_left]
/-- A new box, and what it holds. -/
theorem boxed (w : World) (Z A : Array Value) : Below w.heap.size w ((w.alloc (.cells Z 30)).setRow w.heap.size A) ∧ ((w.alloc (.cells Z 30)).setRow w.heap.size A).heap[w.heap.size]? = some (.cells A 30 (0, 0)) ∧ ((w.alloc (.cells Z 30)).setRow w.heap.size A).heap.size = w.heap.size + 1 := by
  have b1 : Below w.heap.size w (w.alloc (.cells Z 30)) := (Below.refl _ _).alloc (Nat.le_refl _) _
  have e1 := heap_alloc_new w (.cells Z 30)
  have s1 : (w.alloc (.cells Z 30)).heap.size = w.heap.size + 1 := by show (w.heap.push _).size = _; simp
  have oth : ∀ x, x ≠ w.heap.size → ((w.alloc (.cells Z 30)).setRow w.heap.size A).heap[x]? = (w.alloc (.cells Z 30)).heap[x]? := fun x hx => setRow_other _ _ _ _ hx
  exact ⟨b1.trans ⟨rfl, rfl, rfl, by simp, fun x hx => oth x (by omega)⟩, setRow_heap _ _ _ _ _ _ e1, by simp [s1]⟩
/-- A frame over more blocks. -/
theorem Fr.more {B : Nat} {E E' : List Nat} {w1 w : World} (h : Fr B E w1 w) (hE : ∀ x ∈ E', x < w.heap.size) : Fr B E' w w :=
  Fr.start hE (Nat.le_trans h.big h.size) h.pos h.tab
theorem csOk_again {c : Cs} {st : List Int} (h : CsOk c st) : CsOk c c.st :=
  ⟨h.len, h.stl, h.nd, h.home, h.few, fun k h1 h2 => by
    have := h.new k h1 h2
    unfold newS at this ⊢
    by_cases e : k ∈ c.hl
    · rw [if_pos e] at this ⊢; exact this
    · rw [if_neg e]⟩
theorem csOf_some {cl : List (Int × Int)} {st : List Int} (h : cl ≠ []) : (csOf cl st).hl ≠ [] := by
  have : ∀ (cl : List (Int × Int)) (c : Cs), c.hl ≠ [] → (cl.foldl Cs.step c).hl ≠ [] := by
    intro cl
    induction cl with
    | nil => intro c hc; exact hc
    | cons a cl ih =>
      intro c hc
      refine ih _ ?_
      unfold Cs.step
      split
      · exact hc
      · simp
  cases cl with
  | nil => exact absurd rfl h
  | cons a cl => exact this cl _ (by simp [Cs.step])
/-- Commit of changes, some, by a journal that is off. -/
theorem commitX {B : Nat} {E : List Nat} {w : World} {j dp : Nat} {d : Dv} {T : List (List Nat)} {v : Value} {c : Cs} (hJ : JP B E w j dp d T true) (hn : d.n = 275) (hC : Chg E w v c) (hne : c.hl ≠ []) :
    Calls Tryd.prog 18 #[.pointer (some ⟨j, 0, none⟩), v] w fun e w' => e = .returned (.int .i64 9) ∧ Below w.heap.size w w' := by
  obtain ⟨FP, hJo, _⟩ := hJ
  rcases hC with ⟨h0, _⟩ | ⟨lk, cap, gs, rfl, hch⟩
  · exact absurd h0 hne
  · rw [← hn] at hch
    exact commit_off hJo hch
theorem Chg.ext {E E' : List Nat} {w : World} {v : Value} {c : Cs} (h : Chg E w v c) (hE : ∀ x ∈ E, x ∈ E') : Chg E' w v c := by
  rcases h with q | ⟨lk, cap, gs, e, h⟩
  · exact .inl q
  · exact .inr ⟨lk, cap, gs, e, ⟨h.row, h.gsl, fun i hi => ⟨(h.full i hi).1, hE _ (h.full i hi).2.1, (h.full i hi).2.2⟩, hE _ h.lkE, h.ne, h.few, h.nd, h.home⟩⟩
/-- The changes, and the box of what they make. -/
theorem box_chg {B : Nat} {E : List Nat} {w4 w5 w6 : World} {j dp : Nat} {d : Dv} {T : List (List Nat)} {off : Bool} {cl : List (Int × Int)} {st : List Int} (hst : st.length = 30) {v x : Value} (hF : Fr B E w4 w5) (hJ : JP B E w5 j dp d T off) (h6 : ChgPost w5 cl st (.returned (.tuple #[v, x])) w6) (Z : Array Value) :
    x = .agg (av (csOf cl st).st) ∧ (∃ a l c, v = .slice a l c) ∧ ∃ E', (∀ y ∈ E, y ∈ E') ∧ w6.heap.size ∈ E' ∧ Fr B E' ((w6.alloc (.cells Z 30)).setRow w6.heap.size (av (csOf cl st).st)) ((w6.alloc (.cells Z 30)).setRow w6.heap.size (av (csOf cl st).st)) ∧ JP B E' ((w6.alloc (.cells Z 30)).setRow w6.heap.size (av (csOf cl st).st)) j dp d T off ∧ Chg E' ((w6.alloc (.cells Z 30)).setRow w6.heap.size (av (csOf cl st).st)) v (csOf cl st) ∧ ((w6.alloc (.cells Z 30)).setRow w6.heap.size (av (csOf cl st).st)).heap[w6.heap.size]? = some (.cells (av (csOf cl st).st) 30 (0, 0)) ∧ Below w5.heap.size w5 ((w6.alloc (.cells Z 30)).setRow w6.heap.size (av (csOf cl st).st)) := by
  obtain ⟨rfl, hb6, hv, Ex, hEx, hC⟩ := chg_of hst h6
  obtain ⟨q1, q2, q3⟩ := boxed w6 Z (av (csOf cl st).st)
  generalize (w6.alloc (.cells Z 30)).setRow w6.heap.size (av (csOf cl st).st) = w8 at *
  have hs6 := hb6.size
  have hb8 := hb6.trans (q1.mono hs6)
  have hlt : ∀ x ∈ Ex ++ E, x < w6.heap.size := fun x hx => by
    rcases List.mem_append.1 hx with q | q
    · exact (hEx x q).2
    · have := hF.ltw x q; omega
  refine ⟨rfl, hv, w6.heap.size :: (Ex ++ E), fun y hy => by simp [hy], by simp, (hF.below hb8).more (fun x hx => ?_), (hJ.ext (fun x hx => ?_)).below hb8, ((hC E).same (fun x hx => q1.block x (hlt x hx))).ext (fun x hx => List.mem_cons_of_mem _ hx), q2, hb8⟩
  · rcases List.mem_cons.1 hx with rfl | hx
    · omega
    · have := hlt x hx; omega
  · rcases List.mem_cons.1 hx with rfl | hx
    · exact .inr hs6
    · rcases List.mem_append.1 hx with q | q
      · exact .inr (hEx x q).1
      · exact .inl q
/-- A box for the state, of a journal just made. -/
theorem box_z {B : Nat} {E : List Nat} {w1 w3 : World} {j dp : Nat} {d : Dv} {T : List (List Nat)} {off : Bool} (h1 : Fr B E w1 w3) (h2 : JP B E w3 j dp d T off) :
    Fr B (w3.heap.size :: E) (w3.alloc (.cells (av z30) 30)) (w3.alloc (.cells (av z30) 30)) ∧ JP B (w3.heap.size :: E) (w3.alloc (.cells (av z30) 30)) j dp d T off ∧ Fr B E w1 (w3.alloc (.cells (av z30) 30)) ∧ (w3.alloc (.cells (av z30) 30)).heap[w3.heap.size]? = some (.cells (av z30) 30 (0, 0)) := by
  have b4 : Below w3.heap.size w3 (w3.alloc (.cells (av z30) 30)) := (Below.refl _ _).alloc (Nat.le_refl _) _
  have s4 : (w3.alloc (.cells (av z30) 30)).heap.size = w3.heap.size + 1 := by show (w3.heap.push _).size = _; simp
  have h4 := h1.below b4
  refine ⟨h4.more (fun x hx => ?_), (h2.ext (fun x hx => ?_)).below b4, h4, heap_alloc_new w3 _⟩
  · rcases List.mem_cons.1 hx with rfl | hx
    · omega
    · have := h1.ltw x hx; omega
  · rcases List.mem_cons.1 hx with rfl | hx
    · exact .inr (Nat.le_refl _)
    · exact .inl hx
/-- A whole row, loaded where the guard asks for it. -/
theorem load_row_g {P : Program} {ops : Array Oper} {rest : List Oper} {o : Oper} {a : Act} {w : World} {Q : Exit → Act → World → Prop} (hgd : Region.wanted o (yielded ops a.tmps) = true) (ty : TypeId) (x : Operand) (ho : o.op = .load ty x)
    (g : Nat) (hx : a.eval x = .pointer (some ⟨g, 0, none⟩)) (t : TypeId) (cs : Array Value) (fr : Nat × Nat) (d : TypeDesc) (hg : w.heap[g]? = some (.cells cs t fr))
    (hu : P.underlying ty = some d) (hd : (match d with | .struct _ | .array _ _ => true | _ => false) = true) (hi : (P.info? ty).map (·.size) = some cs.size)
    (h : wpList P ops Q rest (a.put o.dst (.agg cs)) w) : wpList P ops Q (o :: rest) a w :=
  wpList_step fun K hK => by rw [if_pos hgd]; exact wp_load_row ty x ho g hx t cs fr d hg hu hd hi (hK _ _ h)
end Go.Proofs.YtmodjgailmpfmaaDoor
