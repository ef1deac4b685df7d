/- Maps in memory as functions: keys a type of plain letters, values as they are; look-up, store, range, clone. -/
import Derived.Test.YtaooidckmepdeaaDoorMem
import Derived.Maps.RangeWalk
import Derived.Maps.OwnOps
import Derived.Laws.StructEq
namespace Go.Proofs.YtaooidckmepdeaaDoor
set_option linter.unusedSimpArgs false
set_option linter.unusedVariables false
open Go.RowKit Go.MapKept
open Go.ChangeMaps (setBlock heap_setBlock_same heap_setBlock_other modify_eq_set)
section
variable {α : Type}
/-- What a look-up and a store ask of the key's type. -/
structure KB (k : TypeId) (mk : α → Value) : Prop where
  inj : ∀ {a b : α}, mk a = mk b → a = b
  check : ∀ (w : World) (em : Bool) (a : α), (Instr.checkKey em 10000 k (mk a)).run Tryd.prog w = .ok () w
  find : ∀ (w : World) (a : α) (es : List MapEntry), (∀ e ∈ es, ∃ b, e.key = mk b) →
    ((Instr.findKey k (mk a) es).run Tryd.prog w = .ok none w ∧ ∀ e ∈ es, e.key ≠ mk a) ∨ ∃ j e, (Instr.findKey k (mk a) es).run Tryd.prog w = .ok (some (j, e.val)) w ∧ es[j]? = some e ∧ e.key = mk a
  stays : ∀ (w : World) (a : α), (Instr.keyThatStays (mk a) (mk a)).run Tryd.prog w = .ok (mk a) w
/-- These entries are that function. -/
structure Ent (mk : α → Value) (es : Array MapEntry) (clock : Nat) (f : α → Option Value) : Prop where
  stamped : Stamped es clock
  keys : ∀ x ∈ es.toList, ∃ a, x.key = mk a ∧ f a = some x.val
  all : ∀ a v, f a = some v → ∃ x ∈ es.toList, x.key = mk a ∧ x.val = v
/-- Block b is a map that is that function, of at most n entries. -/
def MapIs (w : World) (b : Nat) (mk : α → Value) (f : α → Option Value) (n : Nat) : Prop :=
  ∃ es clock, w.heap[b]? = some (.map es clock) ∧ Ent mk es clock f ∧ es.size ≤ n
variable {mk : α → Value} {f : α → Option Value} {w w' : World} {b n : Nat}
theorem MapIs.lt (h : MapIs w b mk f n) : b < w.heap.size := by
  obtain ⟨es, c, hb, _⟩ := h
  exact (Array.getElem?_eq_some_iff.1 hb).1
theorem MapIs.blk (h : MapIs w b mk f n) (e : w'.heap[b]? = w.heap[b]?) : MapIs w' b mk f n := by
  obtain ⟨es, c, hb, r⟩ := h
  exact ⟨es, c, e.trans hb, r⟩
theorem MapIs.below (h : MapIs w b mk f n) (hb : Below w.heap.size w w') : MapIs w' b mk f n := h.blk (hb.block b h.lt)
theorem MapIs.mono (h : MapIs w b mk f n) {m : Nat} (hm : n ≤ m) : MapIs w b mk f m := by
  obtain ⟨es, c, hb, e, hs⟩ := h
  exact ⟨es, c, hb, e, Nat.le_trans hs hm⟩
theorem MapIs.made (w : World) : MapIs (w.alloc (.map #[] 0)) w.heap.size mk (fun _ => none) 0 :=
  ⟨#[], 0, (MapKept.heap_alloc w _).1, ⟨stamped_empty 0, by simp, by simp⟩, Nat.le_refl _⟩
theorem keys_apart {es : Array MapEntry} {c : Nat} (h : Stamped es c) {x y : MapEntry} (hx : x ∈ es.toList) (hy : y ∈ es.toList) (e : x.key = y.key) : x = y :=
  entry_eq_of_key ((stamped_iff es c).1 h).2.2 hx hy e
theorem Ent.val {k : TypeId} (K : KB k mk) {es : Array MapEntry} {c : Nat} (h : Ent mk es c f) {x : MapEntry} (hx : x ∈ es.toList) {a : α} (e : x.key = mk a) : f a = some x.val := by
  obtain ⟨b, e2, hf⟩ := h.keys x hx
  rw [e2] at e
  rw [← K.inj e]; exact hf
/-- m[k]. -/
theorem MapIs.look {k t e : TypeId} (h : MapIs w b mk f n) (K : KB k mk) (ht : Tryd.prog.underlying t = some (.map k e)) {z : Value} (hz : ∀ w, (zeroValue e).run Tryd.prog w = .ok z w) (a : α) :
    (Instr.lookup t (.map (some b)) (mk a) false).run Tryd.prog w = .ok ((f a).getD z) w := by
  obtain ⟨es, c, hb, E, _⟩ := h
  rcases K.find w a es.toList (fun x hx => by obtain ⟨y, e1, _⟩ := E.keys x hx; exact ⟨y, e1⟩) with ⟨h1, h2⟩ | ⟨j, e0, h1, h2, h3⟩
  · have hf : f a = none := by
      cases hfa : f a with
      | none => rfl
      | some v =>
        obtain ⟨x, hx, hk, _⟩ := E.all a v hfa
        exact absurd hk (h2 x hx)
    rw [hf]
    simp [Instr.lookup, run_underlying ht, MapKept.run_getObj_map hb, K.check w _ a, h1, hz, Result.andThen]
  · rw [E.val K (List.mem_of_getElem? h2) h3]
    simp [Instr.lookup, run_underlying ht, MapKept.run_getObj_map hb, K.check w _ a, h1, Result.andThen]
/-- The same in any world that has the block. -/
theorem MapIs.look' {k t e : TypeId} (h : MapIs w b mk f n) (K : KB k mk) (ht : Tryd.prog.underlying t = some (.map k e)) {z : Value} (hz : ∀ w, (zeroValue e).run Tryd.prog w = .ok z w) (a : α) (v : Value) (hv : (f a).getD z = v) :
    ∀ w', w'.heap[b]? = w.heap[b]? → (Instr.lookup t (.map (some b)) (mk a) false).run Tryd.prog w' = .ok v w' := fun w' e => by
  rw [← hv]; exact (h.blk e).look K ht hz a
theorem MapIs.lookOk {k t e : TypeId} (h : MapIs w b mk f n) (K : KB k mk) (ht : Tryd.prog.underlying t = some (.map k e)) {z : Value} (hz : ∀ w, (zeroValue e).run Tryd.prog w = .ok z w) (a : α) :
    (Instr.lookup t (.map (some b)) (mk a) true).run Tryd.prog w = .ok (.tuple #[(f a).getD z, .bool (f a).isSome]) w := by
  obtain ⟨es, c, hb, E, _⟩ := h
  rcases K.find w a es.toList (fun x hx => by obtain ⟨y, e1, _⟩ := E.keys x hx; exact ⟨y, e1⟩) with ⟨h1, h2⟩ | ⟨j, e0, h1, h2, h3⟩
  · have hf : f a = none := by
      cases hfa : f a with
      | none => rfl
      | some v =>
        obtain ⟨x, hx, hk, _⟩ := E.all a v hfa
        exact absurd hk (h2 x hx)
    rw [hf]
    simp [Instr.lookup, run_underlying ht, MapKept.run_getObj_map hb, K.check w _ a, h1, hz, Result.andThen]
  · have hm : e0 ∈ es.toList := List.mem_of_getElem? h2
    rw [E.val K hm h3]
    simp [Instr.lookup, run_underlying ht, MapKept.run_getObj_map hb, K.check w _ a, h1, hz, Result.andThen]
variable [DecidableEq α]
def put (f : α → Option Value) (a : α) (v : Value) : α → Option Value := fun x => if x = a then some v else f x
/-- m[k] = v: the block behind it does not hang on the world. -/
theorem MapIs.store {k t e : TypeId} (h : MapIs w b mk f n) (K : KB k mk) (ht : Tryd.prog.underlying t = some (.map k e)) (a : α) (v : Value) :
    ∃ es' c', (∀ w', w'.heap[b]? = w.heap[b]? → (Instr.mapUpdate t (.map (some b)) (mk a) v).run Tryd.prog w' = .ok () (setBlock w' b (.map es' c'))) ∧ Ent mk es' c' (put f a v) ∧ es'.size ≤ n + 1 := by
  obtain ⟨es, c, hb, E, hs⟩ := h
  have hkeys : ∀ x ∈ es.toList, ∃ b, x.key = mk b := fun x hx => by obtain ⟨y, e1, _⟩ := E.keys x hx; exact ⟨y, e1⟩
  have hcase : (∀ x ∈ es.toList, x.key ≠ mk a) ∨ ∃ (j : Nat) (e0 : MapEntry), es.toList[j]? = some e0 ∧ e0.key = mk a := by
    rcases K.find w a es.toList hkeys with ⟨_, h2⟩ | ⟨j, e0, _, h2, h3⟩
    · exact .inl h2
    · exact .inr ⟨j, e0, h2, h3⟩
  rcases hcase with h2 | ⟨j, e0, h2, h3⟩
  · refine ⟨es.push ⟨mk a, v, c⟩, c + 1, fun w' e => ?_, ⟨stamped_push E.stamped h2, ?_, ?_⟩, by simp; omega⟩
    · have hb' := e.trans hb
      rcases K.find w' a es.toList hkeys with ⟨h1, _⟩ | ⟨j, e0, _, h2', h3⟩
      · simp [Instr.mapUpdate, run_underlying ht, MapKept.run_getObj_map hb', K.check w' false a, h1, MapKept.run_setObj_map _ hb', Result.andThen, setBlock]
      · exact absurd h3 (h2 e0 (List.mem_of_getElem? h2'))
    · intro x hx
      simp only [Array.toList_push, List.mem_append, List.mem_singleton] at hx
      rcases hx with hx | rfl
      · obtain ⟨y, e1, e2⟩ := E.keys x hx
        refine ⟨y, e1, ?_⟩
        have : y ≠ a := fun q => h2 x hx (by rw [e1, q])
        simp [put, this, e2]
      · exact ⟨a, rfl, by simp [put]⟩
    · intro y u hy
      unfold put at hy
      split at hy
      · rename_i q
        subst q
        exact ⟨⟨mk y, v, c⟩, by simp, rfl, by simpa using hy⟩
      · obtain ⟨x, hx, e1, e2⟩ := E.all y u hy
        exact ⟨x, by simp at hx ⊢; exact .inl hx, e1, e2⟩
  · have hj : es[j]? = some e0 := by simpa using h2
    have hjl : j < es.toList.length := (List.getElem?_eq_some_iff.1 h2).1
    have hlist : (es.modify j (fun e' => { e' with key := mk a, val := v })).toList = es.toList.set j { e0 with key := mk a, val := v } := by rw [Array.toList_modify, modify_eq_set _ _ _ _ h2]
    have hother : ∀ x ∈ es.toList.set j { e0 with key := mk a, val := v }, x = { e0 with key := mk a, val := v } ∨ (x ∈ es.toList ∧ x.key ≠ mk a) := by
      intro x hx
      obtain ⟨i, hi, ex⟩ := List.getElem_of_mem hx
      rw [List.getElem_set] at ex
      split at ex
      · exact Or.inl ex.symm
      · rename_i hne
        have hi' : i < es.toList.length := by simpa using hi
        have hxm : x ∈ es.toList := ex ▸ List.getElem_mem hi'
        refine Or.inr ⟨hxm, fun q => hne ?_⟩
        have hxe : x = e0 := keys_apart E.stamped hxm (List.mem_of_getElem? h2) (q.trans h3.symm)
        have hnd : (es.toList.map (·.born)).Nodup := E.stamped.2.1
        have h0 : es.toList[j] = e0 := (List.getElem?_eq_some_iff.1 h2).2
        have hb2 : (es.toList.map (·.born))[j]'(by simpa using hjl) = (es.toList.map (·.born))[i]'(by simpa using hi') := by simp only [List.getElem_map]; rw [h0, ex, hxe]
        exact (List.getElem_inj hnd).1 hb2
    refine ⟨es.modify j (fun e' => { e' with key := mk a, val := v }), c, fun w' e => ?_, ⟨stamped_modify E.stamped _ _ (fun _ _ => rfl) (fun e' _ he' => by rw [hj] at he'; cases he'; exact h3.symm), ?_, ?_⟩, by simp; omega⟩
    · have hb' := e.trans hb
      rcases K.find w' a es.toList hkeys with ⟨_, h2'⟩ | ⟨j', e0', h1, h2', h3'⟩
      · exact absurd h3 (h2' e0 (List.mem_of_getElem? h2))
      · have he : e0' = e0 := keys_apart E.stamped (List.mem_of_getElem? h2') (List.mem_of_getElem? h2) (h3'.trans h3.symm)
        have hjj : j' = j := by
          have hnd : (es.toList.map (·.born)).Nodup := E.stamped.2.1
          have hjl' : j' < es.toList.length := (List.getElem?_eq_some_iff.1 h2').1
          have a1 : es.toList[j] = e0 := (List.getElem?_eq_some_iff.1 h2).2
          have a2 : es.toList[j'] = e0' := (List.getElem?_eq_some_iff.1 h2').2
          have hb2 : (es.toList.map (·.born))[j']'(by simpa using hjl') = (es.toList.map (·.born))[j]'(by simpa using hjl) := by simp only [List.getElem_map]; rw [a1, a2, he]
          exact (List.getElem_inj hnd).1 hb2
        subst hjj
        subst he
        simp [Instr.mapUpdate, run_underlying ht, MapKept.run_getObj_map hb', K.check w' false a, h1, hj, h3, K.stays w' a, MapKept.run_setObj_map _ hb', Result.andThen, setBlock]
    · intro x hx
      rw [hlist] at hx
      rcases hother x hx with rfl | ⟨hx', hne⟩
      · exact ⟨a, rfl, by simp [put]⟩
      · obtain ⟨y, e1, e2⟩ := E.keys x hx'
        refine ⟨y, e1, ?_⟩
        have : y ≠ a := fun q => hne (by rw [e1, q])
        simp [put, this, e2]
    · intro y u hy
      unfold put at hy
      rw [hlist]
      split at hy
      · rename_i q
        subst q
        exact ⟨{ e0 with key := mk y, val := v }, List.mem_iff_getElem.2 ⟨j, by simpa using hjl, by simp⟩, rfl, by simpa using hy⟩
      · rename_i q
        obtain ⟨x, hx, e1, e2⟩ := E.all y u hy
        obtain ⟨i, hi, ex⟩ := List.getElem_of_mem hx
        refine ⟨x, List.mem_iff_getElem.2 ⟨i, by simpa using hi, ?_⟩, e1, e2⟩
        rw [List.getElem_set, if_neg, ex]
        intro hji
        subst hji
        have a1 : es.toList[j] = e0 := (List.getElem?_eq_some_iff.1 h2).2
        rw [ex] at a1
        rw [a1, h3] at e1
        exact q (K.inj e1).symm
end
end Go.Proofs.YtaooidckmepdeaaDoor
