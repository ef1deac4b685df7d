/- The table of fields: a map that is made in whatever order. -/
import Derived.Test.YtaooidckmepdeaaDoorKg
import Derived.Test.YtaooidckmepdeaaDoorKq
import Derived.Test.YtaooidckmepdeaaDoorLat
import Derived.Carry
namespace Go.Proofs.YtaooidckmepdeaaDoor
set_option linter.unusedSimpArgs false
set_option linter.unusedVariables false
open Go.RowKit Go.MapKept
open Go.ChangeMaps (setBlock heap_setBlock_same heap_setBlock_other)
section
variable {P : Program} {ops : Array Oper} {Q : Exit → Act → World → Prop} {md : Region.Mode}
theorem set_getD (l : Array Bool) (i k : Nat) (d : Bool) (h : i < l.size) : (l.setIfInBounds i true).getD k d = if k = i then true else l.getD k d := by
  simp only [Array.getD_eq_getD_getElem?, Array.getElem?_setIfInBounds]
  by_cases e : k = i
  · subst e; simp [h]
  · simp [e, Ne.symm e]
/-- How many are not listed yet. -/
def open' (l : Array Bool) : Nat := (l.toList.filter (fun b => !b)).length
theorem open_set (l : List Bool) (i : Nat) (h : i < l.length) (hf : l[i] = false) : ((l.set i true).filter (fun b => !b)).length + 1 = (l.filter (fun b => !b)).length := by
  induction l generalizing i with
  | nil => simp at h
  | cons b r ih =>
    cases i with
    | zero => simp at hf; subst hf; simp
    | succ i =>
      have := ih i (by simpa using h) (by simpa using hf)
      cases b <;> simp [List.filter_cons] at this ⊢ <;> omega
/-- Where all that an operation waits for stands ahead of it, one that is not listed leaves one that is ready. -/
theorem all_listed (htop : ∀ i o, ops[i]? = some o → ∀ e ∈ o.after, Region.binds md e = true → e.on < i) (l : Array Bool) (hl : l.size = ops.size) (hr : Region.ready md ops l = []) : ∀ i, i < ops.size → l.getD i false = true := by
  intro i
  induction i using Nat.strongRecOn with
  | ind i ih =>
    intro hi
    cases hb : l.getD i false with
    | true => rfl
    | false =>
      exfalso
      have hb2 : l.getD i true = false := by
        simp only [Array.getD_eq_getD_getElem?] at hb ⊢
        rw [Array.getElem?_eq_getElem (by omega)] at hb ⊢
        simpa using hb
      have : i ∈ Region.ready md ops l := mem_ready.2 ⟨hb2, ops[i], Array.getElem?_eq_getElem hi, fun e he hbn => ih e.on (htop i _ (Array.getElem?_eq_getElem hi) e he hbn) (Nat.lt_trans (htop i _ (Array.getElem?_eq_getElem hi) e he hbn) hi)⟩
      rw [hr] at this
      cases this
/-- What every operation keeps, whatever the order, stands at the end. -/
theorem any_inv (Inv : Array Bool → Act → World → Prop) (htop : ∀ i o, ops[i]? = some o → ∀ e ∈ o.after, Region.binds md e = true → e.on < i)
    (hstep : ∀ l a w i, l.size = ops.size → Inv l a w → i ∈ Region.ready md ops l → wpOp P ops Q i (fun a' w' => Inv (l.setIfInBounds i true) a' w') a w)
    (hend : ∀ l a w, Inv l a w → (∀ i, i < ops.size → l.getD i false = true) → Q .normal a w) :
    ∀ (f : Nat) (l : Array Bool) (a : Act) (w : World), l.size = ops.size → open' l ≤ f → Inv l a w → wpAny P md ops Q f l a w := by
  intro f
  induction f with
  | zero =>
    intro l a w hl ho hI
    have hr : Region.ready md ops l = [] := by
      rw [List.eq_nil_iff_forall_not_mem]
      intro i hi
      have h1 := (mem_ready.1 hi).1
      have hlt : i < l.size := by
        rw [hl]
        obtain ⟨_, o, ho, _⟩ := mem_ready.1 hi
        exact (Array.getElem?_eq_some_iff.1 ho).1
      have h2 : false ∈ l.toList := by
        simp only [Array.getD_eq_getD_getElem?, Array.getElem?_eq_getElem hlt, Option.getD_some] at h1
        rw [← h1]; simp
      have h3 : 0 < (l.toList.filter (fun b => !b)).length := List.length_pos_of_mem (List.mem_filter.2 ⟨h2, rfl⟩)
      unfold open' at ho
      omega
    exact ⟨hr, hend l a w hI (all_listed htop l hl hr)⟩
  | succ f ih =>
    intro l a w hl ho hI
    refine ⟨fun hr => hend l a w hI (all_listed htop l hl hr), fun i hi => ?_⟩
    refine wpOp_mono (fun a' w' h' => ih _ a' w' (by simpa using hl) ?_ h') (hstep l a w i hl hI hi)
    have h1 := (mem_ready.1 hi).1
    have hlt : i < l.size := by
      rw [hl]
      obtain ⟨_, o, ho, _⟩ := mem_ready.1 hi
      exact (Array.getElem?_eq_some_iff.1 ho).1
    simp only [Array.getD_eq_getD_getElem?, Array.getElem?_eq_getElem hlt, Option.getD_some] at h1
    have := open_set l.toList i (by simpa using hlt) (by simpa using h1)
    unfold open' at ho ⊢
    simp only [Array.toList_setIfInBounds]
    omega
theorem step_val {i : Nat} {o : Oper} {K : Act → World → Prop} {a : Act} {w w' : World} {v : Value} (hi : ops[i]? = some o) (hg : o.guard = none) (hr : (execOp a.eval o).run P w = .ok (.value v) w') (h : K (a.put o.dst v) w') : wpOp P ops Q i K a w := by
  refine wpOp_step hi fun K' hK => ?_
  rw [if_pos (by simp [Region.wanted, hg])]
  unfold Oper.wp
  rw [hr]
  exact hK _ _ h
theorem step_skip {i : Nat} {o : Oper} {K : Act → World → Prop} {a : Act} {w w' : World} (hi : ops[i]? = some o) (hg : o.guard = none) (hd : o.dst = none) (hr : (execOp a.eval o).run P w = .ok .skip w') (h : K a w') : wpOp P ops Q i K a w := by
  refine wpOp_step hi fun K' hK => ?_
  rw [if_pos (by simp [Region.wanted, hg])]
  unfold Oper.wp
  rw [hr]
  simp only [Oper.upon, hd, Act.put]
  exact hK _ _ h
end
def opsOf : Code → Array Oper
  | .seq _ (.seq (.region _ o _) _) => o
  | _ => #[]
def ropsOf (f : Func) : Array Oper := opsOf (f.body.getD .skip)
/-- The keys, and their fields. -/
def tabK : List (Int × Int) := [(0, 1), (0, 2), (0, 3), (0, 4), (0, 5), (0, 6), (0, 7), (0, 8), (1, 0), (1, 1), (1, 2), (1, 3), (1, 4), (1, 5), (1, 6), (1, 7), (1, 8)]
def tabR : List (List Nat) := [[0, 3, 4, 5, 6, 7, 8], [0], [], [0, 2, 9, 10, 11], [0, 2, 12, 13], [0, 2, 14], [1, 0, 2, 12], [1, 0, 2], [], [], [], [17, 18], [12, 15, 16], [15, 16, 19], [12, 15, 16], [], [12]]
def kj (j : Nat) : Int × Int := tabK.getD j (0, 0)
def rj (j : Nat) : List Nat := tabR.getD j []
def fcv (r : List Nat) : List Value := r.map fun f => Value.int .i64 ((f : Nat) : Int)
theorem r_size : (ropsOf Tryd.f22).size = 54 := by kernel_rfl
theorem r_top : (List.range 54).all (fun i => (((ropsOf Tryd.f22)[i]?).map (fun o => o.after.all fun e => !Region.binds .any e || decide (e.on < i))).getD true) = true := by kernel_rfl
theorem r_top' : ∀ i o, (ropsOf Tryd.f22)[i]? = some o → ∀ e ∈ o.after, Region.binds .any e = true → e.on < i := by
  intro i o ho e he hb
  have hlt : i < 54 := by
    have := (Array.getElem?_eq_some_iff.1 ho).1
    rw [r_size] at this
    exact this
  have h := List.all_eq_true.1 r_top i (by simpa using hlt)
  rw [ho] at h
  simp only [Option.map_some, Option.getD_some, Array.all_eq_true_iff_forall_mem] at h
  have := h e he
  simpa [hb] using this
theorem r_map : ∃ o, (ropsOf Tryd.f22)[0]? = some o ∧ o.op = .makeMap 100 none ∧ o.dst = some 7 ∧ o.guard = none := ⟨_, rfl, rfl, rfl, rfl⟩
theorem r_mv : ∃ o, (ropsOf Tryd.f22)[52]? = some o ∧ o.op = .move (.tmp 7) ∧ o.dst = some 42 ∧ o.guard = none ∧ o.after.any (fun e => Region.binds .any e && e.on == 0) = true := ⟨_, rfl, rfl, rfl, rfl, by kernel_rfl⟩
theorem r_as : ∃ o, (ropsOf Tryd.f22)[53]? = some o ∧ o.op = .assign (.tmp 42) ∧ o.dst = some 6 ∧ o.guard = none ∧ o.after.any (fun e => Region.binds .any e && e.on == 52) = true := ⟨_, rfl, rfl, rfl, rfl, by kernel_rfl⟩
theorem r_key : ∀ j, j < 17 → ∃ o, (ropsOf Tryd.f22)[3 * j + 1]? = some o ∧ o.op = .build 98 #[(0, .const (.int .i64 (kj j).1)), (1, .const (.int .i64 (kj j).2))] ∧ o.dst = some (8 + 2 * j) ∧ o.guard = none
  | 0, _ => ⟨_, rfl, rfl, rfl, rfl⟩
  | 1, _ => ⟨_, rfl, rfl, rfl, rfl⟩
  | 2, _ => ⟨_, rfl, rfl, rfl, rfl⟩
  | 3, _ => ⟨_, rfl, rfl, rfl, rfl⟩
  | 4, _ => ⟨_, rfl, rfl, rfl, rfl⟩
  | 5, _ => ⟨_, rfl, rfl, rfl, rfl⟩
  | 6, _ => ⟨_, rfl, rfl, rfl, rfl⟩
  | 7, _ => ⟨_, rfl, rfl, rfl, rfl⟩
  | 8, _ => ⟨_, rfl, rfl, rfl, rfl⟩
  | 9, _ => ⟨_, rfl, rfl, rfl, rfl⟩
  | 10, _ => ⟨_, rfl, rfl, rfl, rfl⟩
  | 11, _ => ⟨_, rfl, rfl, rfl, rfl⟩
  | 12, _ => ⟨_, rfl, rfl, rfl, rfl⟩
  | 13, _ => ⟨_, rfl, rfl, rfl, rfl⟩
  | 14, _ => ⟨_, rfl, rfl, rfl, rfl⟩
  | 15, _ => ⟨_, rfl, rfl, rfl, rfl⟩
  | 16, _ => ⟨_, rfl, rfl, rfl, rfl⟩
  | j + 17, h => absurd h (by omega)
def parts (r : List Nat) : Array (Nat × Operand) := ((List.range r.length).map fun i => (i, Operand.const (Value.int .i64 ((r.getD i 0 : Nat) : Int)))).toArray
theorem r_row : ∀ j, j < 17 → ∃ o, (ropsOf Tryd.f22)[3 * j + 2]? = some o ∧ o.op = .buildSlice 55 (rj j).length (parts (rj j)) ∧ o.dst = some (9 + 2 * j) ∧ o.guard = none
  | 0, _ => ⟨_, rfl, rfl, rfl, rfl⟩
  | 1, _ => ⟨_, rfl, rfl, rfl, rfl⟩
  | 2, _ => ⟨_, rfl, rfl, rfl, rfl⟩
  | 3, _ => ⟨_, rfl, rfl, rfl, rfl⟩
  | 4, _ => ⟨_, rfl, rfl, rfl, rfl⟩
  | 5, _ => ⟨_, rfl, rfl, rfl, rfl⟩
  | 6, _ => ⟨_, rfl, rfl, rfl, rfl⟩
  | 7, _ => ⟨_, rfl, rfl, rfl, rfl⟩
  | 8, _ => ⟨_, rfl, rfl, rfl, rfl⟩
  | 9, _ => ⟨_, rfl, rfl, rfl, rfl⟩
  | 10, _ => ⟨_, rfl, rfl, rfl, rfl⟩
  | 11, _ => ⟨_, rfl, rfl, rfl, rfl⟩
  | 12, _ => ⟨_, rfl, rfl, rfl, rfl⟩
  | 13, _ => ⟨_, rfl, rfl, rfl, rfl⟩
  | 14, _ => ⟨_, rfl, rfl, rfl, rfl⟩
  | 15, _ => ⟨_, rfl, rfl, rfl, rfl⟩
  | 16, _ => ⟨_, rfl, rfl, rfl, rfl⟩
  | j + 17, h => absurd h (by omega)
theorem r_ins : ∀ j, j < 17 → ∃ o, (ropsOf Tryd.f22)[3 * j + 3]? = some o ∧ o.op = .insert 100 (.tmp 7) (.tmp (8 + 2 * j)) (.tmp (9 + 2 * j)) ∧ o.dst = none ∧ o.guard = none ∧ o.after.any (fun e => Region.binds .any e && e.on == 0) = true ∧ o.after.any (fun e => Region.binds .any e && e.on == 3 * j + 1) = true ∧ o.after.any (fun e => Region.binds .any e && e.on == 3 * j + 2) = true
  | 0, _ => ⟨_, rfl, rfl, rfl, rfl, by kernel_rfl, by kernel_rfl, by kernel_rfl⟩
  | 1, _ => ⟨_, rfl, rfl, rfl, rfl, by kernel_rfl, by kernel_rfl, by kernel_rfl⟩
  | 2, _ => ⟨_, rfl, rfl, rfl, rfl, by kernel_rfl, by kernel_rfl, by kernel_rfl⟩
  | 3, _ => ⟨_, rfl, rfl, rfl, rfl, by kernel_rfl, by kernel_rfl, by kernel_rfl⟩
  | 4, _ => ⟨_, rfl, rfl, rfl, rfl, by kernel_rfl, by kernel_rfl, by kernel_rfl⟩
  | 5, _ => ⟨_, rfl, rfl, rfl, rfl, by kernel_rfl, by kernel_rfl, by kernel_rfl⟩
  | 6, _ => ⟨_, rfl, rfl, rfl, rfl, by kernel_rfl, by kernel_rfl, by kernel_rfl⟩
  | 7, _ => ⟨_, rfl, rfl, rfl, rfl, by kernel_rfl, by kernel_rfl, by kernel_rfl⟩
  | 8, _ => ⟨_, rfl, rfl, rfl, rfl, by kernel_rfl, by kernel_rfl, by kernel_rfl⟩
  | 9, _ => ⟨_, rfl, rfl, rfl, rfl, by kernel_rfl, by kernel_rfl, by kernel_rfl⟩
  | 10, _ => ⟨_, rfl, rfl, rfl, rfl, by kernel_rfl, by kernel_rfl, by kernel_rfl⟩
  | 11, _ => ⟨_, rfl, rfl, rfl, rfl, by kernel_rfl, by kernel_rfl, by kernel_rfl⟩
  | 12, _ => ⟨_, rfl, rfl, rfl, rfl, by kernel_rfl, by kernel_rfl, by kernel_rfl⟩
  | 13, _ => ⟨_, rfl, rfl, rfl, rfl, by kernel_rfl, by kernel_rfl, by kernel_rfl⟩
  | 14, _ => ⟨_, rfl, rfl, rfl, rfl, by kernel_rfl, by kernel_rfl, by kernel_rfl⟩
  | 15, _ => ⟨_, rfl, rfl, rfl, rfl, by kernel_rfl, by kernel_rfl, by kernel_rfl⟩
  | 16, _ => ⟨_, rfl, rfl, rfl, rfl, by kernel_rfl, by kernel_rfl, by kernel_rfl⟩
  | j + 17, h => absurd h (by omega)
theorem waits_for {ops : Array Oper} {md : Region.Mode} {l : Array Bool} {i n : Nat} {o : Oper} (hi : i ∈ Region.ready md ops l) (ho : ops[i]? = some o) (h : o.after.any (fun e => Region.binds md e && e.on == n) = true) : l.getD n false = true := by
  obtain ⟨_, o', ho', ha⟩ := mem_ready.1 hi
  rw [ho] at ho'
  injection ho' with ho'
  subst ho'
  rw [Array.any_eq_true] at h
  obtain ⟨k, hk, he⟩ := h
  simp only [Bool.and_eq_true, beq_iff_eq] at he
  rw [← he.2]
  exact ha _ (Array.getElem_mem hk) he.1
theorem run_key (p : Int × Int) (x : World) : (Instr.build 98 #[(0, .int .i64 p.1), (1, .int .i64 p.2)]).run Tryd.prog x = .ok (mkP p) x := by
  go_simp
theorem run_r0 (x : World) : (Instr.buildSlice 55 0 #[]).run Tryd.prog x = .ok (.slice (some ⟨x.heap.size, 0, none⟩) 0 0) (x.alloc (.cells #[] 99)) := by
  go_simp
theorem run_r1 (x : World) : (Instr.buildSlice 55 1 #[(0, .int .i64 0)]).run Tryd.prog x = .ok (.slice (some ⟨x.heap.size, 0, none⟩) 1 1) (x.alloc (.cells #[.int .i64 0] 99)) := by
  go_simp
theorem run_r2 (x : World) : (Instr.buildSlice 55 5 #[(0, .int .i64 0), (1, .int .i64 2), (2, .int .i64 9), (3, .int .i64 10), (4, .int .i64 11)]).run Tryd.prog x = .ok (.slice (some ⟨x.heap.size, 0, none⟩) 5 5) (x.alloc (.cells #[.int .i64 0, .int .i64 2, .int .i64 9, .int .i64 10, .int .i64 11] 99)) := by
  go_simp
theorem run_r3 (x : World) : (Instr.buildSlice 55 4 #[(0, .int .i64 0), (1, .int .i64 2), (2, .int .i64 12), (3, .int .i64 13)]).run Tryd.prog x = .ok (.slice (some ⟨x.heap.size, 0, none⟩) 4 4) (x.alloc (.cells #[.int .i64 0, .int .i64 2, .int .i64 12, .int .i64 13] 99)) := by
  go_simp
theorem run_r4 (x : World) : (Instr.buildSlice 55 3 #[(0, .int .i64 0), (1, .int .i64 2), (2, .int .i64 14)]).run Tryd.prog x = .ok (.slice (some ⟨x.heap.size, 0, none⟩) 3 3) (x.alloc (.cells #[.int .i64 0, .int .i64 2, .int .i64 14] 99)) := by
  go_simp
theorem run_r5 (x : World) : (Instr.buildSlice 55 7 #[(0, .int .i64 0), (1, .int .i64 3), (2, .int .i64 4), (3, .int .i64 5), (4, .int .i64 6), (5, .int .i64 7), (6, .int .i64 8)]).run Tryd.prog x = .ok (.slice (some ⟨x.heap.size, 0, none⟩) 7 7) (x.alloc (.cells #[.int .i64 0, .int .i64 3, .int .i64 4, .int .i64 5, .int .i64 6, .int .i64 7, .int .i64 8] 99)) := by
  go_simp
theorem run_r6 (x : World) : (Instr.buildSlice 55 3 #[(0, .int .i64 1), (1, .int .i64 0), (2, .int .i64 2)]).run Tryd.prog x = .ok (.slice (some ⟨x.heap.size, 0, none⟩) 3 3) (x.alloc (.cells #[.int .i64 1, .int .i64 0, .int .i64 2] 99)) := by
  go_simp
theorem run_r7 (x : World) : (Instr.buildSlice 55 4 #[(0, .int .i64 1), (1, .int .i64 0), (2, .int .i64 2), (3, .int .i64 12)]).run Tryd.prog x = .ok (.slice (some ⟨x.heap.size, 0, none⟩) 4 4) (x.alloc (.cells #[.int .i64 1, .int .i64 0, .int .i64 2, .int .i64 12] 99)) := by
  go_simp
theorem run_r8 (x : World) : (Instr.buildSlice 55 1 #[(0, .int .i64 12)]).run Tryd.prog x = .ok (.slice (some ⟨x.heap.size, 0, none⟩) 1 1) (x.alloc (.cells #[.int .i64 12] 99)) := by
  go_simp
theorem run_r9 (x : World) : (Instr.buildSlice 55 3 #[(0, .int .i64 12), (1, .int .i64 15), (2, .int .i64 16)]).run Tryd.prog x = .ok (.slice (some ⟨x.heap.size, 0, none⟩) 3 3) (x.alloc (.cells #[.int .i64 12, .int .i64 15, .int .i64 16] 99)) := by
  go_simp
theorem run_r10 (x : World) : (Instr.buildSlice 55 3 #[(0, .int .i64 15), (1, .int .i64 16), (2, .int .i64 19)]).run Tryd.prog x = .ok (.slice (some ⟨x.heap.size, 0, none⟩) 3 3) (x.alloc (.cells #[.int .i64 15, .int .i64 16, .int .i64 19] 99)) := by
  go_simp
theorem run_r11 (x : World) : (Instr.buildSlice 55 2 #[(0, .int .i64 17), (1, .int .i64 18)]).run Tryd.prog x = .ok (.slice (some ⟨x.heap.size, 0, none⟩) 2 2) (x.alloc (.cells #[.int .i64 17, .int .i64 18] 99)) := by
  go_simp
theorem run_row : ∀ j, j < 17 → ∀ (ρ : Operand → Value) (x : World), (∀ v, ρ (.const v) = v) → (Instr.buildSlice 55 (rj j).length ((parts (rj j)).map fun (i, y) => (i, ρ y))).run Tryd.prog x = .ok (.slice (some ⟨x.heap.size, 0, none⟩) (rj j).length (rj j).length) (x.alloc (.cells (fcv (rj j)).toArray 99))
  | 0, _ => fun ρ x hρ => by
    have e : ((parts (rj 0)).map fun (i, y) => (i, ρ y)) = #[(0, ρ (.const (.int .i64 0))), (1, ρ (.const (.int .i64 3))), (2, ρ (.const (.int .i64 4))), (3, ρ (.const (.int .i64 5))), (4, ρ (.const (.int .i64 6))), (5, ρ (.const (.int .i64 7))), (6, ρ (.const (.int .i64 8)))] := by simp [parts, rj, tabR, List.range_succ]
    rw [e]
    try simp only [hρ]
    exact run_r5 x
  | 1, _ => fun ρ x hρ => by
    have e : ((parts (rj 1)).map fun (i, y) => (i, ρ y)) = #[(0, ρ (.const (.int .i64 0)))] := by simp [parts, rj, tabR, List.range_succ]
    rw [e]
    try simp only [hρ]
    exact run_r1 x
  | 2, _ => fun ρ x hρ => by
    have e : ((parts (rj 2)).map fun (i, y) => (i, ρ y)) = #[] := by simp [parts, rj, tabR, List.range_succ]
    rw [e]
    try simp only [hρ]
    exact run_r0 x
  | 3, _ => fun ρ x hρ => by
    have e : ((parts (rj 3)).map fun (i, y) => (i, ρ y)) = #[(0, ρ (.const (.int .i64 0))), (1, ρ (.const (.int .i64 2))), (2, ρ (.const (.int .i64 9))), (3, ρ (.const (.int .i64 10))), (4, ρ (.const (.int .i64 11)))] := by simp [parts, rj, tabR, List.range_succ]
    rw [e]
    try simp only [hρ]
    exact run_r2 x
  | 4, _ => fun ρ x hρ => by
    have e : ((parts (rj 4)).map fun (i, y) => (i, ρ y)) = #[(0, ρ (.const (.int .i64 0))), (1, ρ (.const (.int .i64 2))), (2, ρ (.const (.int .i64 12))), (3, ρ (.const (.int .i64 13)))] := by simp [parts, rj, tabR, List.range_succ]
    rw [e]
    try simp only [hρ]
    exact run_r3 x
  | 5, _ => fun ρ x hρ => by
    have e : ((parts (rj 5)).map fun (i, y) => (i, ρ y)) = #[(0, ρ (.const (.int .i64 0))), (1, ρ (.const (.int .i64 2))), (2, ρ (.const (.int .i64 14)))] := by simp [parts, rj, tabR, List.range_succ]
    rw [e]
    try simp only [hρ]
    exact run_r4 x
  | 6, _ => fun ρ x hρ => by
    have e : ((parts (rj 6)).map fun (i, y) => (i, ρ y)) = #[(0, ρ (.const (.int .i64 1))), (1, ρ (.const (.int .i64 0))), (2, ρ (.const (.int .i64 2))), (3, ρ (.const (.int .i64 12)))] := by simp [parts, rj, tabR, List.range_succ]
    rw [e]
    try simp only [hρ]
    exact run_r7 x
  | 7, _ => fun ρ x hρ => by
    have e : ((parts (rj 7)).map fun (i, y) => (i, ρ y)) = #[(0, ρ (.const (.int .i64 1))), (1, ρ (.const (.int .i64 0))), (2, ρ (.const (.int .i64 2)))] := by simp [parts, rj, tabR, List.range_succ]
    rw [e]
    try simp only [hρ]
    exact run_r6 x
  | 8, _ => fun ρ x hρ => by
    have e : ((parts (rj 8)).map fun (i, y) => (i, ρ y)) = #[] := by simp [parts, rj, tabR, List.range_succ]
    rw [e]
    try simp only [hρ]
    exact run_r0 x
  | 9, _ => fun ρ x hρ => by
    have e : ((parts (rj 9)).map fun (i, y) => (i, ρ y)) = #[] := by simp [parts, rj, tabR, List.range_succ]
    rw [e]
    try simp only [hρ]
    exact run_r0 x
  | 10, _ => fun ρ x hρ => by
    have e : ((parts (rj 10)).map fun (i, y) => (i, ρ y)) = #[] := by simp [parts, rj, tabR, List.range_succ]
    rw [e]
    try simp only [hρ]
    exact run_r0 x
  | 11, _ => fun ρ x hρ => by
    have e : ((parts (rj 11)).map fun (i, y) => (i, ρ y)) = #[(0, ρ (.const (.int .i64 17))), (1, ρ (.const (.int .i64 18)))] := by simp [parts, rj, tabR, List.range_succ]
    rw [e]
    try simp only [hρ]
    exact run_r11 x
  | 12, _ => fun ρ x hρ => by
    have e : ((parts (rj 12)).map fun (i, y) => (i, ρ y)) = #[(0, ρ (.const (.int .i64 12))), (1, ρ (.const (.int .i64 15))), (2, ρ (.const (.int .i64 16)))] := by simp [parts, rj, tabR, List.range_succ]
    rw [e]
    try simp only [hρ]
    exact run_r9 x
  | 13, _ => fun ρ x hρ => by
    have e : ((parts (rj 13)).map fun (i, y) => (i, ρ y)) = #[(0, ρ (.const (.int .i64 15))), (1, ρ (.const (.int .i64 16))), (2, ρ (.const (.int .i64 19)))] := by simp [parts, rj, tabR, List.range_succ]
    rw [e]
    try simp only [hρ]
    exact run_r10 x
  | 14, _ => fun ρ x hρ => by
    have e : ((parts (rj 14)).map fun (i, y) => (i, ρ y)) = #[(0, ρ (.const (.int .i64 12))), (1, ρ (.const (.int .i64 15))), (2, ρ (.const (.int .i64 16)))] := by simp [parts, rj, tabR, List.range_succ]
    rw [e]
    try simp only [hρ]
    exact run_r9 x
  | 15, _ => fun ρ x hρ => by
    have e : ((parts (rj 15)).map fun (i, y) => (i, ρ y)) = #[] := by simp [parts, rj, tabR, List.range_succ]
    rw [e]
    try simp only [hρ]
    exact run_r0 x
  | 16, _ => fun ρ x hρ => by
    have e : ((parts (rj 16)).map fun (i, y) => (i, ρ y)) = #[(0, ρ (.const (.int .i64 12)))] := by simp [parts, rj, tabR, List.range_succ]
    rw [e]
    try simp only [hρ]
    exact run_r8 x
  | j + 17, h => absurd h (by omega)
theorem frow_new (x : World) (r : List Nat) : FRow (x.alloc (.cells (fcv r).toArray 99)) (some ⟨x.heap.size, 0, none⟩) r := by
  intro i hi
  refine ⟨x.heap.size, 0, rfl, ?_⟩
  rw [cell_of_row _ x.heap.size (0 + i) (fcv r).toArray 99 (0, 0) (heap_alloc_new x _)]
  simp [fcv, List.getD, hi]
theorem frow_block {x : World} {g : Nat} {es es' : Array MapEntry} {c c' : Nat} {a : Option Addr} {r : List Nat} (hg : x.heap[g]? = some (.map es c)) (h : FRow x a r) : FRow (setBlock x g (.map es' c')) a r := by
  intro i hi
  obtain ⟨b, off, e, hc⟩ := h i hi
  refine ⟨b, off, e, ?_⟩
  have hne : b ≠ g := by
    rintro rfl
    simp [World.cell?, hg] at hc
  rw [World.cell?_of_block (a := ⟨b, off + i, none⟩) (heap_setBlock_other hg _ hne)]
  exact hc
/-- What stands while the table is made. -/
structure RI (w : World) (way kind : Int) (l : Array Bool) (a : Act) (x : World) : Prop where
  size : a.tmps.size = 53
  dfr : a.defers = []
  t0 : a.tmps.getD 0 undef = .int .i64 way
  t1 : a.tmps.getD 1 undef = .int .i64 kind
  bel : Below w.heap.size w x
  keys : ∀ j, j < 17 → l.getD (3 * j + 1) false = true → a.tmps.getD (8 + 2 * j) undef = mkP (kj j)
  rows : ∀ j, j < 17 → l.getD (3 * j + 2) false = true → ∃ ad, a.tmps.getD (9 + 2 * j) undef = .slice (some ad) (rj j).length (rj j).length ∧ FRow x (some ad) (rj j)
  map : l.getD 0 false = true → ∃ g F n, a.tmps.getD 7 undef = .map (some g) ∧ w.heap.size ≤ g ∧ MapIs x g mkP F n ∧ (∀ j, j < 17 → l.getD (3 * j + 3) false = true → F (kj j) = some (a.tmps.getD (9 + 2 * j) undef)) ∧ ∀ k v, F k = some v → ∃ j, j < 17 ∧ kj j = k
  ins : ∀ j, j < 17 → l.getD (3 * j + 3) false = true → l.getD (3 * j + 2) false = true ∧ l.getD 0 false = true
  mv : l.getD 52 false = true → a.tmps.getD 42 undef = a.tmps.getD 7 undef ∧ l.getD 0 false = true
  fin : l.getD 53 false = true → a.tmps.getD 6 undef = a.tmps.getD 7 undef ∧ l.getD 0 false = true
theorem put_get (a : Act) (d k : Nat) (v : Value) (h : d < a.tmps.size) : (a.put (some d) v).tmps.getD k undef = if k = d then v else a.tmps.getD k undef := by
  simp only [Act.put, Array.getD_eq_getD_getElem?, Array.getElem?_setIfInBounds]
  by_cases e : k = d
  · subst e; simp [h]
  · simp [e, Ne.symm e]
theorem kj_inj : ∀ i j, i < 17 → j < 17 → kj i = kj j → i = j := by
  have h : ∀ i : Fin 17, ∀ j : Fin 17, kj i.val = kj j.val → i = j := by decide
  intro i j hi hj e
  exact congrArg Fin.val (h ⟨i, hi⟩ ⟨j, hj⟩ e)
set_option maxHeartbeats 1600000 in
theorem ri_step (w : World) (way kind : Int) (Q : Exit → Act → World → Prop) (l : Array Bool) (a : Act) (x : World) (i : Nat) (hl : l.size = (ropsOf Tryd.f22).size) (h : RI w way kind l a x) (hi : i ∈ Region.ready .any (ropsOf Tryd.f22) l) :
    wpOp Tryd.prog (ropsOf Tryd.f22) Q i (fun a' w' => RI w way kind (l.setIfInBounds i true) a' w') a x := by
  rw [r_size] at hl
  have hi54 : i < 54 := by
    obtain ⟨_, o, ho, _⟩ := mem_ready.1 hi
    have := (Array.getElem?_eq_some_iff.1 ho).1
    rw [r_size] at this
    exact this
  have hno : l.getD i false = false := by
    have h1 := (mem_ready.1 hi).1
    simp only [Array.getD_eq_getD_getElem?] at h1 ⊢
    rw [Array.getElem?_eq_getElem (by omega)] at h1 ⊢
    simpa using h1
  have hs : ∀ k, (l.setIfInBounds i true).getD k false = if k = i then true else l.getD k false := fun k => set_getD l i k false (by omega)
  have hsz := h.size
  have hcase : i = 0 ∨ (∃ j, j < 17 ∧ i = 3 * j + 1) ∨ (∃ j, j < 17 ∧ i = 3 * j + 2) ∨ (∃ j, j < 17 ∧ i = 3 * j + 3) ∨ i = 52 ∨ i = 53 := by
    by_cases h0 : i = 0
    · exact .inl h0
    · by_cases h52 : 52 ≤ i
      · have : i = 52 ∨ i = 53 := by omega
        rcases this with q | q <;> simp [q]
      · have hm : (i - 1) % 3 = 0 ∨ (i - 1) % 3 = 1 ∨ (i - 1) % 3 = 2 := by omega
        rcases hm with q | q | q
        · exact .inr (.inl ⟨(i - 1) / 3, by omega, by omega⟩)
        · exact .inr (.inr (.inl ⟨(i - 1) / 3, by omega, by omega⟩))
        · exact .inr (.inr (.inr (.inl ⟨(i - 1) / 3, by omega, by omega⟩)))
  rcases hcase with rfl | ⟨j, hj, rfl⟩ | ⟨j, hj, rfl⟩ | ⟨j, hj, rfl⟩ | rfl | rfl
  · obtain ⟨o, ho, hop, hd, hg⟩ := r_map
    refine step_val ho hg (v := .map (some x.heap.size)) (w' := x.alloc (.map #[] 0)) (by simp [execOp, hop, run_makeMap, Result.andThen]) ?_
    rw [hd]
    have hp : ∀ k, (a.put (some 7) (.map (some x.heap.size))).tmps.getD k undef = if k = 7 then .map (some x.heap.size) else a.tmps.getD k undef := fun k => put_get a 7 k _ (by omega)
    have hb := below_box (w := x) (.map #[] 0)
    refine ⟨by simp [Act.put, hsz], by simp [Act.put, h.dfr], by rw [hp, if_neg (by decide)]; exact h.t0, by rw [hp, if_neg (by decide)]; exact h.t1, h.bel.trans (hb.mono h.bel.size), ?_, ?_, ?_, ?_, ?_, ?_⟩
    · intro j hj hlj
      rw [hs, if_neg (by omega)] at hlj
      rw [hp, if_neg (by omega)]
      exact h.keys j hj hlj
    · intro j hj hlj
      rw [hs, if_neg (by omega)] at hlj
      obtain ⟨ad, e, hf⟩ := h.rows j hj hlj
      exact ⟨ad, by rw [hp, if_neg (by omega)]; exact e, hf.below hb⟩
    · intro _
      refine ⟨x.heap.size, fun _ => none, 0, by rw [hp, if_pos rfl], h.bel.size, MapIs.made x, ?_, fun k v e => by cases e⟩
      intro j hj hlj
      rw [hs, if_neg (by omega)] at hlj
      rw [(h.ins j hj hlj).2] at hno
      cases hno
    · intro j hj hlj
      rw [hs, if_neg (by omega)] at hlj
      rw [(h.ins j hj hlj).2] at hno
      cases hno
    · intro hlj
      rw [hs, if_neg (by decide)] at hlj
      rw [(h.mv hlj).2] at hno
      cases hno
    · intro hlj
      rw [hs, if_neg (by decide)] at hlj
      rw [(h.fin hlj).2] at hno
      cases hno
  · obtain ⟨o, ho, hop, hd, hg⟩ := r_key j hj
    refine step_val ho hg (v := mkP (kj j)) (w' := x) (by simp [execOp, hop, Act.eval, run_key, Result.andThen]) ?_
    rw [hd]
    have hp : ∀ k, (a.put (some (8 + 2 * j)) (mkP (kj j))).tmps.getD k undef = if k = 8 + 2 * j then mkP (kj j) else a.tmps.getD k undef := fun k => put_get a (8 + 2 * j) k _ (by omega)
    refine ⟨by simp [Act.put, hsz], by simp [Act.put, h.dfr], by rw [hp, if_neg (by omega)]; exact h.t0, by rw [hp, if_neg (by omega)]; exact h.t1, h.bel, ?_, ?_, ?_, ?_, ?_, ?_⟩
    · intro j' hj' hlj
      by_cases e : j' = j
      · subst e; rw [hp, if_pos rfl]
      · rw [hs, if_neg (by omega)] at hlj
        rw [hp, if_neg (by omega)]
        exact h.keys j' hj' hlj
    · intro j' hj' hlj
      rw [hs, if_neg (by omega)] at hlj
      obtain ⟨ad, e, hf⟩ := h.rows j' hj' hlj
      exact ⟨ad, by rw [hp, if_neg (by omega)]; exact e, hf⟩
    · intro hl0
      rw [hs, if_neg (by omega)] at hl0
      obtain ⟨g, F, n, e, hg, hm, h1, h2⟩ := h.map hl0
      refine ⟨g, F, n, by rw [hp, if_neg (by omega)]; exact e, hg, hm, ?_, h2⟩
      intro j' hj' hlj
      rw [hs, if_neg (by omega)] at hlj
      rw [hp, if_neg (by omega)]
      exact h1 j' hj' hlj
    · intro j' hj' hlj
      rw [hs, if_neg (by omega)] at hlj
      rw [hs, hs, if_neg (by omega), if_neg (by omega)]
      exact h.ins j' hj' hlj
    · intro hlj
      rw [hs, if_neg (by omega)] at hlj
      rw [hp, hp, hs, if_neg (by omega), if_neg (by omega), if_neg (by omega)]
      exact h.mv hlj
    · intro hlj
      rw [hs, if_neg (by omega)] at hlj
      rw [hp, hp, hs, if_neg (by omega), if_neg (by omega), if_neg (by omega)]
      exact h.fin hlj
  · obtain ⟨o, ho, hop, hd, hg⟩ := r_row j hj
    refine step_val ho hg (v := .slice (some ⟨x.heap.size, 0, none⟩) (rj j).length (rj j).length) (w' := x.alloc (.cells (fcv (rj j)).toArray 99)) (by
      have := run_row j hj a.eval x (fun v => rfl)
      simp only [execOp, hop, Sem.run_bind, this, Result.andThen]
      rfl) ?_
    rw [hd]
    have hp : ∀ k, (a.put (some (9 + 2 * j)) (.slice (some ⟨x.heap.size, 0, none⟩) (rj j).length (rj j).length)).tmps.getD k undef = if k = 9 + 2 * j then .slice (some ⟨x.heap.size, 0, none⟩) (rj j).length (rj j).length else a.tmps.getD k undef := fun k => put_get a (9 + 2 * j) k _ (by omega)
    have hb := below_box (w := x) (.cells (fcv (rj j)).toArray 99)
    refine ⟨by simp [Act.put, hsz], by simp [Act.put, h.dfr], by rw [hp, if_neg (by omega)]; exact h.t0, by rw [hp, if_neg (by omega)]; exact h.t1, h.bel.trans (hb.mono h.bel.size), ?_, ?_, ?_, ?_, ?_, ?_⟩
    · intro j' hj' hlj
      rw [hs, if_neg (by omega)] at hlj
      rw [hp, if_neg (by omega)]
      exact h.keys j' hj' hlj
    · intro j' hj' hlj
      by_cases e : j' = j
      · subst e
        exact ⟨_, by rw [hp, if_pos rfl], frow_new x _⟩
      · rw [hs, if_neg (by omega)] at hlj
        obtain ⟨ad, e, hf⟩ := h.rows j' hj' hlj
        exact ⟨ad, by rw [hp, if_neg (by omega)]; exact e, hf.below hb⟩
    · intro hl0
      rw [hs, if_neg (by omega)] at hl0
      obtain ⟨g, F, n, e, hg, hm, h1, h2⟩ := h.map hl0
      refine ⟨g, F, n, by rw [hp, if_neg (by omega)]; exact e, hg, hm.below hb, ?_, h2⟩
      intro j' hj' hlj
      rw [hs, if_neg (by omega)] at hlj
      have hne : j' ≠ j := by
        rintro rfl
        rw [(h.ins j' hj' hlj).1] at hno
        cases hno
      rw [hp, if_neg (by omega)]
      exact h1 j' hj' hlj
    · intro j' hj' hlj
      rw [hs, if_neg (by omega)] at hlj
      have := h.ins j' hj' hlj
      refine ⟨?_, by rw [hs, if_neg (by omega)]; exact this.2⟩
      rw [hs]
      split
      · rfl
      · exact this.1
    · intro hlj
      rw [hs, if_neg (by omega)] at hlj
      rw [hp, hp, hs, if_neg (by omega), if_neg (by omega), if_neg (by omega)]
      exact h.mv hlj
    · intro hlj
      rw [hs, if_neg (by omega)] at hlj
      rw [hp, hp, hs, if_neg (by omega), if_neg (by omega), if_neg (by omega)]
      exact h.fin hlj
  · obtain ⟨o, ho, hop, hd, hg, w0', w1', w2'⟩ := r_ins j hj
    have l0 := waits_for hi ho w0'
    have l1 := waits_for hi ho w1'
    have l2 := waits_for hi ho w2'
    have hk := h.keys j hj l1
    obtain ⟨ad, hv, hf⟩ := h.rows j hj l2
    obtain ⟨g, F, n, e, hgb, hm, h1, h2⟩ := h.map l0
    obtain ⟨es, c, hgm, _⟩ := hm
    obtain ⟨es', c', hrun, hE, hn⟩ := MapIs.store (w := x) (b := g) (n := n) (f := F) (mk := mkP) (h.map l0 |> fun _ => ⟨es, c, hgm, by assumption⟩) kbP Tryd.underlying100 (kj j) (a.tmps.getD (9 + 2 * j) undef)
    have hrun' := hrun x rfl
    refine step_skip ho hg hd (w' := setBlock x g (.map es' c')) (by
      simp only [execOp, hop, Act.eval, e, hk, Sem.run_bind, hrun', Result.andThen]
      rfl) ?_
    have hlt : g < x.heap.size := (Array.getElem?_eq_some_iff.1 hgm).1
    have hbel : Below w.heap.size w (setBlock x g (.map es' c')) := ⟨h.bel.os, h.bel.tape, h.bel.output, by simpa [setBlock] using h.bel.size, fun k hk => by rw [heap_setBlock_other hgm _ (show k ≠ g by omega)]; exact h.bel.block k hk⟩
    refine ⟨hsz, h.dfr, h.t0, h.t1, hbel, ?_, ?_, ?_, ?_, ?_, ?_⟩
    · intro j' hj' hlj
      rw [hs, if_neg (by omega)] at hlj
      exact h.keys j' hj' hlj
    · intro j' hj' hlj
      rw [hs, if_neg (by omega)] at hlj
      obtain ⟨ad', e', hf'⟩ := h.rows j' hj' hlj
      exact ⟨ad', e', frow_block hgm hf'⟩
    · intro _
      refine ⟨g, put F (kj j) (a.tmps.getD (9 + 2 * j) undef), n + 1, e, hgb, ⟨es', c', heap_setBlock_same hgm _, hE, hn⟩, ?_, ?_⟩
      · intro j' hj' hlj
        by_cases ej : j' = j
        · subst ej; simp [put]
        · rw [hs, if_neg (by omega)] at hlj
          unfold put
          rw [if_neg (fun q => ej (kj_inj j' j hj' hj q))]
          exact h1 j' hj' hlj
      · intro k v hkv
        unfold put at hkv
        split at hkv
        · rename_i q; exact ⟨j, hj, q.symm⟩
        · exact h2 k v hkv
    · intro j' hj' hlj
      by_cases ej : j' = j
      · subst ej
        rw [hs, hs, if_neg (by omega), if_neg (by omega)]
        exact ⟨l2, l0⟩
      · rw [hs, if_neg (by omega)] at hlj
        rw [hs, hs, if_neg (by omega), if_neg (by omega)]
        exact h.ins j' hj' hlj
    · intro hlj
      rw [hs, if_neg (by omega)] at hlj
      rw [hs, if_neg (by omega)]
      exact h.mv hlj
    · intro hlj
      rw [hs, if_neg (by omega)] at hlj
      rw [hs, if_neg (by omega)]
      exact h.fin hlj
  · obtain ⟨o, ho, hop, hd, hg, w0'⟩ := r_mv
    have l0 := waits_for hi ho w0'
    refine step_val ho hg (v := a.tmps.getD 7 undef) (w' := x) (by simp [execOp, hop, Act.eval, Result.andThen]) ?_
    rw [hd]
    have hp : ∀ k, (a.put (some 42) (a.tmps.getD 7 undef)).tmps.getD k undef = if k = 42 then a.tmps.getD 7 undef else a.tmps.getD k undef := fun k => put_get a 42 k _ (by omega)
    refine ⟨by simp [Act.put, hsz], by simp [Act.put, h.dfr], by rw [hp, if_neg (by decide)]; exact h.t0, by rw [hp, if_neg (by decide)]; exact h.t1, h.bel, ?_, ?_, ?_, ?_, ?_, ?_⟩
    · intro j' hj' hlj
      rw [hs, if_neg (by omega)] at hlj
      rw [hp, if_neg (by omega)]
      exact h.keys j' hj' hlj
    · intro j' hj' hlj
      rw [hs, if_neg (by omega)] at hlj
      obtain ⟨ad, e, hf⟩ := h.rows j' hj' hlj
      exact ⟨ad, by rw [hp, if_neg (by omega)]; exact e, hf⟩
    · intro hl0
      obtain ⟨g, F, n, e, hg, hm, h1, h2⟩ := h.map l0
      refine ⟨g, F, n, by rw [hp, if_neg (by decide)]; exact e, hg, hm, ?_, h2⟩
      intro j' hj' hlj
      rw [hs, if_neg (by omega)] at hlj
      rw [hp, if_neg (by omega)]
      exact h1 j' hj' hlj
    · intro j' hj' hlj
      rw [hs, if_neg (by omega)] at hlj
      rw [hs, hs, if_neg (by omega), if_neg (by omega)]
      exact h.ins j' hj' hlj
    · intro _
      rw [hp, hp, hs, if_pos rfl, if_neg (by decide), if_neg (by decide)]
      exact ⟨rfl, l0⟩
    · intro hlj
      rw [hs, if_neg (by decide)] at hlj
      rw [hp, hp, hs, if_neg (by decide), if_neg (by decide), if_neg (by decide)]
      exact h.fin hlj
  · obtain ⟨o, ho, hop, hd, hg, w0'⟩ := r_as
    have l52 := waits_for hi ho w0'
    refine step_val ho hg (v := a.tmps.getD 42 undef) (w' := x) (by simp [execOp, hop, Act.eval, Result.andThen]) ?_
    rw [hd]
    have hp : ∀ k, (a.put (some 6) (a.tmps.getD 42 undef)).tmps.getD k undef = if k = 6 then a.tmps.getD 42 undef else a.tmps.getD k undef := fun k => put_get a 6 k _ (by omega)
    refine ⟨by simp [Act.put, hsz], by simp [Act.put, h.dfr], by rw [hp, if_neg (by decide)]; exact h.t0, by rw [hp, if_neg (by decide)]; exact h.t1, h.bel, ?_, ?_, ?_, ?_, ?_, ?_⟩
    · intro j' hj' hlj
      rw [hs, if_neg (by omega)] at hlj
      rw [hp, if_neg (by omega)]
      exact h.keys j' hj' hlj
    · intro j' hj' hlj
      rw [hs, if_neg (by omega)] at hlj
      obtain ⟨ad, e, hf⟩ := h.rows j' hj' hlj
      exact ⟨ad, by rw [hp, if_neg (by omega)]; exact e, hf⟩
    · intro hl0
      obtain ⟨g, F, n, e, hg, hm, h1, h2⟩ := h.map (h.mv l52).2
      refine ⟨g, F, n, by rw [hp, if_neg (by decide)]; exact e, hg, hm, ?_, h2⟩
      intro j' hj' hlj
      rw [hs, if_neg (by omega)] at hlj
      rw [hp, if_neg (by omega)]
      exact h1 j' hj' hlj
    · intro j' hj' hlj
      rw [hs, if_neg (by omega)] at hlj
      rw [hs, hs, if_neg (by omega), if_neg (by omega)]
      exact h.ins j' hj' hlj
    · intro hlj
      rw [hs, if_neg (by decide)] at hlj
      rw [hp, hp, hs, if_neg (by decide), if_neg (by decide), if_neg (by decide)]
      exact h.mv hlj
    · intro _
      rw [hp, hp, hs, if_pos rfl, if_neg (by decide), if_neg (by decide)]
      exact ⟨(h.mv l52).1, (h.mv l52).2⟩
theorem rep_no (n k : Nat) : (Array.replicate n false).getD k false = false := by
  simp only [Array.getD_eq_getD_getElem?, Array.getElem?_replicate]
  split <;> rfl
theorem arr53 {α : Type} {cs : Array α} (h : cs.size = 53) : ∃ y0 y1 y2 y3 y4 y5 y6 y7 y8 y9 y10 y11 y12 y13 y14 y15 y16 y17 y18 y19 y20 y21 y22 y23 y24 y25 y26 y27 y28 y29 y30 y31 y32 y33 y34 y35 y36 y37 y38 y39 y40 y41 y42 y43 y44 y45 y46 y47 y48 y49 y50 y51 y52, cs = #[y0, y1, y2, y3, y4, y5, y6, y7, y8, y9, y10, y11, y12, y13, y14, y15, y16, y17, y18, y19, y20, y21, y22, y23, y24, y25, y26, y27, y28, y29, y30, y31, y32, y33, y34, y35, y36, y37, y38, y39, y40, y41, y42, y43, y44, y45, y46, y47, y48, y49, y50, y51, y52] := by
  obtain ⟨l⟩ := cs
  match l, h with
  | y0 :: y1 :: y2 :: y3 :: y4 :: y5 :: y6 :: y7 :: y8 :: y9 :: y10 :: y11 :: y12 :: y13 :: y14 :: y15 :: y16 :: y17 :: y18 :: y19 :: y20 :: y21 :: y22 :: y23 :: y24 :: y25 :: y26 :: y27 :: y28 :: y29 :: y30 :: y31 :: y32 :: y33 :: y34 :: y35 :: y36 :: y37 :: y38 :: y39 :: y40 :: y41 :: y42 :: y43 :: y44 :: y45 :: y46 :: y47 :: y48 :: y49 :: y50 :: y51 :: y52 :: [], _ => exact ⟨y0, y1, y2, y3, y4, y5, y6, y7, y8, y9, y10, y11, y12, y13, y14, y15, y16, y17, y18, y19, y20, y21, y22, y23, y24, y25, y26, y27, y28, y29, y30, y31, y32, y33, y34, y35, y36, y37, y38, y39, y40, y41, y42, y43, y44, y45, y46, y47, y48, y49, y50, y51, y52, rfl⟩
def rowT (way kind : Int) : Option (List Nat) := if way = 0 then rowQ kind else rowA kind
theorem kj_bd : ∀ j, j < 17 → 0 ≤ (kj j).2 ∧ (kj j).2 ≤ 8 ∧ ((kj j).1 = 0 → 1 ≤ (kj j).2) := by
  have h : ∀ j : Fin 17, 0 ≤ (kj j.val).2 ∧ (kj j.val).2 ≤ 8 ∧ ((kj j.val).1 = 0 → 1 ≤ (kj j.val).2) := by decide
  exact fun j hj => h ⟨j, hj⟩
theorem find_tab (way kind : Int) (hw : way = 0 ∨ way = 1) : (∃ j, j < 17 ∧ kj j = (way, kind) ∧ rowT way kind = some (rj j)) ∨ ((∀ j, j < 17 → kj j ≠ (way, kind)) ∧ rowT way kind = none) := by
  by_cases hk : 0 ≤ kind ∧ kind ≤ 8
  · have hc : kind = 0 ∨ kind = 1 ∨ kind = 2 ∨ kind = 3 ∨ kind = 4 ∨ kind = 5 ∨ kind = 6 ∨ kind = 7 ∨ kind = 8 := by omega
    rcases hw with rfl | rfl
    · rcases hc with rfl | rfl | rfl | rfl | rfl | rfl | rfl | rfl | rfl
      · refine .inr ⟨fun j hj e => ?_, rfl⟩
        have := (kj_bd j hj).2.2 (by rw [e])
        rw [e] at this
        simp at this
      · exact .inl ⟨0, by decide, rfl, rfl⟩
      · exact .inl ⟨1, by decide, rfl, rfl⟩
      · exact .inl ⟨2, by decide, rfl, rfl⟩
      · exact .inl ⟨3, by decide, rfl, rfl⟩
      · exact .inl ⟨4, by decide, rfl, rfl⟩
      · exact .inl ⟨5, by decide, rfl, rfl⟩
      · exact .inl ⟨6, by decide, rfl, rfl⟩
      · exact .inl ⟨7, by decide, rfl, rfl⟩
    · rcases hc with rfl | rfl | rfl | rfl | rfl | rfl | rfl | rfl | rfl
      · exact .inl ⟨8, by decide, rfl, rfl⟩
      · exact .inl ⟨9, by decide, rfl, rfl⟩
      · exact .inl ⟨10, by decide, rfl, rfl⟩
      · exact .inl ⟨11, by decide, rfl, rfl⟩
      · exact .inl ⟨12, by decide, rfl, rfl⟩
      · exact .inl ⟨13, by decide, rfl, rfl⟩
      · exact .inl ⟨14, by decide, rfl, rfl⟩
      · exact .inl ⟨15, by decide, rfl, rfl⟩
      · exact .inl ⟨16, by decide, rfl, rfl⟩
  · refine .inr ⟨fun j hj e => hk ?_, ?_⟩
    · have := kj_bd j hj
      rw [e] at this
      exact ⟨this.1, this.2.1⟩
    · unfold rowT rowQ rowA
      rcases hw with rfl | rfl
      · rw [if_pos rfl]
        repeat rw [if_neg (by omega)]
      · rw [if_neg (by decide)]
        repeat rw [if_neg (by omega)]
theorem info55s : (Tryd.prog.info? 55).map (fun i => (i.zero, i.size, i.bytes)) = some (some (.slice none 0 0), 1, 24) := by kernel_rfl
theorem zero55 (w : World) : (zeroValue 55).run Tryd.prog w = .ok (.slice none 0 0) w := by
  obtain ⟨i0, hi, hz0, hz1, hz2⟩ := info_parts info55s
  simp [zeroValue, typeInfo, hi, hz0]
/-- What rowOf answers. -/
def RowP (t : Option (List Nat)) (w : World) (e : Ending) (w' : World) : Prop := (∃ a c, e = .returned (.tuple #[.slice a (rowOr t).length c, .bool t.isSome]) ∧ FRow w' a (rowOr t)) ∧ Below w.heap.size w w'
set_option maxHeartbeats 1600000 in
set_option maxRecDepth 100000 in
theorem rowOf_any (way kind : Int) (hw : way = 0 ∨ way = 1) (w : World) : Calls Tryd.prog 22 #[.int .i64 way, .int .i64 kind] w (RowP (rowT way kind) w) := by
  have HF : Hid _ := find_tab way kind hw
  have HW : Hid (way = 0 ∨ way = 1) := hw
  clear hw
  generalize rowT way kind = T at *
  go_enter Tryd.func22, Tryd.ntmps22
  go_wp2_with fail
  refine wp_region_any (by kernel_rfl) ?_
  refine any_inv (ops := ropsOf Tryd.f22) (RI w way kind) r_top' (fun l a x i hl h hi => ri_step w way kind _ l a x i hl h hi) ?_ _ _ _ _ (by simp [r_size]) ?_ ?_
  · intro l a x h hall
    rw [r_size] at hall
    obtain ⟨g, F, n, e7, hg, hm, h1, h2⟩ := h.map (hall 0 (by decide))
    have e6 := (h.fin (hall 53 (by decide))).1
    have hr := fun j hj => h.rows j hj (hall (3 * j + 2) (by omega))
    have hk := fun j hj => h1 j hj (hall (3 * j + 3) (by omega))
    have hbel := h.bel
    have e0 := h.t0
    have e1 := h.t1
    have hsz := h.size
    have hdf := h.dfr
    rw [e7] at e6
    have hlook := MapIs.lookOk hm kbP Tryd.underlying100 zero55 (way, kind)
    have hval : ∃ a c, (F (way, kind)).getD (.slice none 0 0) = .slice a (rowOr T).length c ∧ (F (way, kind)).isSome = T.isSome ∧ FRow x a (rowOr T) := by
      rcases HF.out with ⟨j, hj, ek, et⟩ | ⟨hn, et⟩
      · obtain ⟨ad, ev, hf⟩ := hr j hj
        have := hk j hj
        rw [ek, ev] at this
        rw [this, et]
        exact ⟨some ad, (rj j).length, rfl, rfl, hf⟩
      · have : F (way, kind) = none := by
          cases hF : F (way, kind) with
          | none => rfl
          | some v =>
            obtain ⟨j, hj, e⟩ := h2 _ _ hF
            exact absurd e (hn j hj)
        rw [this, et]
        exact ⟨none, 0, rfl, rfl, fun i hi => by simp [rowOr] at hi⟩
    obtain ⟨a', c', v1, v2, hfr⟩ := hval
    rw [v1, v2] at hlook
    clear h1 h2 hr hk h hm hall HF v1 v2
    obtain ⟨tm, df⟩ := a
    simp only at hsz hdf e0 e1 e6 e7
    obtain ⟨y0, y1, y2, y3, y4, y5, y6, y7, y8, y9, y10, y11, y12, y13, y14, y15, y16, y17, y18, y19, y20, y21, y22, y23, y24, y25, y26, y27, y28, y29, y30, y31, y32, y33, y34, y35, y36, y37, y38, y39, y40, y41, y42, y43, y44, y45, y46, y47, y48, y49, y50, y51, y52, rfl⟩ := arr53 hsz
    have f0 : y0 = .int .i64 way := e0
    have f1 : y1 = .int .i64 kind := e1
    have f6 : y6 = .map (some g) := e6
    subst f0 f1 f6 hdf
    clear e0 e1 e6 e7 hsz
    have HFR : Hid (FRow x a' (rowOr T)) := hfr
    have HBL : Hid (Below w.heap.size w x) := hbel
    clear hfr hbel
    obtain ⟨n', HN⟩ : ∃ n', Hid ((rowOr T).length = n') := ⟨_, rfl⟩
    obtain ⟨b', HB'⟩ : ∃ b', Hid (T.isSome = b') := ⟨_, rfl⟩
    rw [HN.out, HB'.out] at hlook
    go_wp2_with fail
    go_ret2
    exact ⟨⟨a', c', by rw [HN.out, HB'.out]; rfl, HFR.out⟩, HBL.out⟩
  · show open' (Array.replicate 54 false) ≤ 54
    decide
  · refine ⟨rfl, rfl, rfl, rfl, ⟨rfl, rfl, rfl, Nat.le_refl _, fun _ _ => rfl⟩, ?_, ?_, ?_, ?_, ?_, ?_⟩
    all_goals
      intros
      rename_i hq
      rw [rep_no] at hq
      cases hq
end Go.Proofs.YtaooidckmepdeaaDoor
