/- Maps in memory as functions: keys a type of plain letters, values as they are; look-up, store, range. -/
import Derived.Test.YtnnljdnaipjoiaaMem
import Derived.Maps.RangeWalk
import Derived.Maps.OwnOps
import Derived.Laws.StructEq
namespace Go.Proofs.Ytnnljdnaipjoiaa
set_option linter.unusedSimpArgs false
set_option linter.unusedVariables false
open Go.RowKit Go.MapKept
open Go.ChangeMaps (setBlock heap_setBlock_same heap_setBlock_other modify_eq_set)
section
variable {α : Type}
/-- What a look-up and a store ask of the key's type. -/
structure KB (k : TypeId) (mk : α → Value) : Prop where
  inj : ∀ {a b : α}, mk a = mk b → a = b
  check : ∀ (w : World) (em : Bool) (a : α), (Instr.checkKey em 10000 k (mk a)).run Try.prog w = .ok () w
  find : ∀ (w : World) (a : α) (es : List MapEntry), (∀ e ∈ es, ∃ b, e.key = mk b) →
    ((Instr.findKey k (mk a) es).run Try.prog w = .ok none w ∧ ∀ e ∈ es, e.key ≠ mk a) ∨ ∃ j e, (Instr.findKey k (mk a) es).run Try.prog w = .ok (some (j, e.val)) w ∧ es[j]? = some e ∧ e.key = mk a
  stays : ∀ (w : World) (a : α), (Instr.keyThatStays (mk a) (mk a)).run Try.prog w = .ok (mk a) w
/-- These entries are that function. -/
structure Ent (mk : α → Value) (es : Array MapEntry) (clock : Nat) (f : α → Option Value) : Prop where
  stamped : Stamped es clock
  keys : ∀ x ∈ es.toList, ∃ a, x.key = mk a ∧ f a = some x.val
  all : ∀ a v, f a = some v → ∃ x ∈ es.toList, x.key = mk a ∧ x.val = v
/-- Block b is a map that is that function, of at most n entries. -/
def MapIs (w : World) (b : Nat) (mk : α → Value) (f : α → Option Value) (n : Nat) : Prop :=
  ∃ es clock, w.heap[b]? = some (.map es clock) ∧ Ent mk es clock f ∧ es.size ≤ n
variable {mk : α → Value} {f : α → Option Value} {w w' : World} {b n : Nat}
theorem MapIs.lt (h : MapIs w b mk f n) : b < w.heap.size := by
  obtain ⟨es, c, hb, _⟩ := h
  exact (Array.getElem?_eq_some_iff.1 hb).1
theorem MapIs.blk (h : MapIs w b mk f n) (e : w'.heap[b]? = w.heap[b]?) : MapIs w' b mk f n := by
  obtain ⟨es, c, hb, r⟩ := h
  exact ⟨es, c, e.trans hb, r⟩
theorem MapIs.below (h : MapIs w b mk f n) (hb : Below w.heap.size w w') : MapIs w' b mk f n := h.blk (hb.block b h.lt)
theorem MapIs.mono (h : MapIs w b mk f n) {m : Nat} (hm : n ≤ m) : MapIs w b mk f m := by
  obtain ⟨es, c, hb, e, hs⟩ := h
  exact ⟨es, c, hb, e, Nat.le_trans hs hm⟩
theorem MapIs.made (w : World) : MapIs (w.alloc (.map #[] 0)) w.heap.size mk (fun _ => none) 0 :=
  ⟨#[], 0, (MapKept.heap_alloc w _).1, ⟨stamped_empty 0, by simp, by simp⟩, Nat.le_refl _⟩
theorem keys_apart {es : Array MapEntry} {c : Nat} (h : Stamped es c) {x y : MapEntry} (hx : x ∈ es.toList) (hy : y ∈ es.toList) (e : x.key = y.key) : x = y :=
  entry_eq_of_key ((stamped_iff es c).1 h).2.2 hx hy e
theorem Ent.val {k : TypeId} (K : KB k mk) {es : Array MapEntry} {c : Nat} (h : Ent mk es c f) {x : MapEntry} (hx : x ∈ es.toList) {a : α} (e : x.key = mk a) : f a = some x.val := by
  obtain ⟨b, e2, hf⟩ := h.keys x hx
  rw [e2] at e
  rw [← K.inj e]; exact hf
/-- m[k]. -/
theorem MapIs.look {k t e : TypeId} (h : MapIs w b mk f n) (K : KB k mk) (ht : Try.prog.underlying t = some (.map k e)) {z : Value} (hz : ∀ w, (zeroValue e).run Try.prog w = .ok z w) (a : α) :
    (Instr.lookup t (.map (some b)) (mk a) false).run Try.prog w = .ok ((f a).getD z) w := by
  obtain ⟨es, c, hb, E, _⟩ := h
  rcases K.find w a es.toList (fun x hx => by obtain ⟨y, e1, _⟩ := E.keys x hx; exact ⟨y, e1⟩) with ⟨h1, h2⟩ | ⟨j, e0, h1, h2, h3⟩
  · have hf : f a = none := by
      cases hfa : f a with
      | none => rfl
      | some v =>
        obtain ⟨x, hx, hk, _⟩ := E.all a v hfa
        exact absurd hk (h2 x hx)
    rw [hf]
    simp [Instr.lookup, run_underlying ht, MapKept.run_getObj_map hb, K.check w _ a, h1, hz, Result.andThen]
  · rw [E.val K (List.mem_of_getElem? h2) h3]
    simp [Instr.lookup, run_underlying ht, MapKept.run_getObj_map hb, K.check w _ a, h1, Result.andThen]
/-- The same in any world that has the block. -/
theorem MapIs.look' {k t e : TypeId} (h : MapIs w b mk f n) (K : KB k mk) (ht : Try.prog.underlying t = some (.map k e)) {z : Value} (hz : ∀ w, (zeroValue e).run Try.prog w = .ok z w) (a : α) (v : Value) (hv : (f a).getD z = v) :
    ∀ w', w'.heap[b]? = w.heap[b]? → (Instr.lookup t (.map (some b)) (mk a) false).run Try.prog w' = .ok v w' := fun w' e => by
  rw [← hv]; exact (h.blk e).look K ht hz a
variable [DecidableEq α]
def put (f : α → Option Value) (a : α) (v : Value) : α → Option Value := fun x => if x = a then some v else f x
/-- m[k] = v: the block behind it does not hang on the world. -/
theorem MapIs.store {k t e : TypeId} (h : MapIs w b mk f n) (K : KB k mk) (ht : Try.prog.underlying t = some (.map k e)) (a : α) (v : Value) :
    ∃ es' c', (∀ w', w'.heap[b]? = w.heap[b]? → (Instr.mapUpdate t (.map (some b)) (mk a) v).run Try.prog w' = .ok () (setBlock w' b (.map es' c'))) ∧ Ent mk es' c' (put f a v) ∧ es'.size ≤ n + 1 := by
  obtain ⟨es, c, hb, E, hs⟩ := h
  have hkeys : ∀ x ∈ es.toList, ∃ b, x.key = mk b := fun x hx => by obtain ⟨y, e1, _⟩ := E.keys x hx; exact ⟨y, e1⟩
  have hcase : (∀ x ∈ es.toList, x.key ≠ mk a) ∨ ∃ (j : Nat) (e0 : MapEntry), es.toList[j]? = some e0 ∧ e0.key = mk a := by
    rcases K.find w a es.toList hkeys with ⟨_, h2⟩ | ⟨j, e0, _, h2, h3⟩
    · exact .inl h2
    · exact .inr ⟨j, e0, h2, h3⟩
  rcases hcase with h2 | ⟨j, e0, h2, h3⟩
  · refine ⟨es.push ⟨mk a, v, c⟩, c + 1, fun w' e => ?_, ⟨stamped_push E.stamped h2, ?_, ?_⟩, by simp; omega⟩
    · have hb' := e.trans hb
      rcases K.find w' a es.toList hkeys with ⟨h1, _⟩ | ⟨j, e0, _, h2', h3⟩
      · simp [Instr.mapUpdate, run_underlying ht, MapKept.run_getObj_map hb', K.check w' false a, h1, MapKept.run_setObj_map _ hb', Result.andThen, setBlock]
      · exact absurd h3 (h2 e0 (List.mem_of_getElem? h2'))
    · intro x hx
      simp only [Array.toList_push, List.mem_append, List.mem_singleton] at hx
      rcases hx with hx | rfl
      · obtain ⟨y, e1, e2⟩ := E.keys x hx
        refine ⟨y, e1, ?_⟩
        have : y ≠ a := fun q => h2 x hx (by rw [e1, q])
        simp [put, this, e2]
      · exact ⟨a, rfl, by simp [put]⟩
    · intro y u hy
      unfold put at hy
      split at hy
      · rename_i q
        subst q
        exact ⟨⟨mk y, v, c⟩, by simp, rfl, by simpa using hy⟩
      · obtain ⟨x, hx, e1, e2⟩ := E.all y u hy
        exact ⟨x, by simp at hx ⊢; exact .inl hx, e1, e2⟩
  · have hj : es[j]? = some e0 := by simpa using h2
    have hjl : j < es.toList.length := (List.getElem?_eq_some_iff.1 h2).1
    have hlist : (es.modify j (fun e' => { e' with key := mk a, val := v })).toList = es.toList.set j { e0 with key := mk a, val := v } := by rw [Array.toList_modify, modify_eq_set _ _ _ _ h2]
    have hother : ∀ x ∈ es.toList.set j { e0 with key := mk a, val := v }, x = { e0 with key := mk a, val := v } ∨ (x ∈ es.toList ∧ x.key ≠ mk a) := by
      intro x hx
      obtain ⟨i, hi, ex⟩ := List.getElem_of_mem hx
      rw [List.getElem_set] at ex
      split at ex
      · exact Or.inl ex.symm
      · rename_i hne
        have hi' : i < es.toList.length := by simpa using hi
        have hxm : x ∈ es.toList := ex ▸ List.getElem_mem hi'
        refine Or.inr ⟨hxm, fun q => hne ?_⟩
        have hxe : x = e0 := keys_apart E.stamped hxm (List.mem_of_getElem? h2) (q.trans h3.symm)
        have hnd : (es.toList.map (·.born)).Nodup := E.stamped.2.1
        have h0 : es.toList[j] = e0 := (List.getElem?_eq_some_iff.1 h2).2
        have hb2 : (es.toList.map (·.born))[j]'(by simpa using hjl) = (es.toList.map (·.born))[i]'(by simpa using hi') := by simp only [List.getElem_map]; rw [h0, ex, hxe]
        exact (List.getElem_inj hnd).1 hb2
    refine ⟨es.modify j (fun e' => { e' with key := mk a, val := v }), c, fun w' e => ?_, ⟨stamped_modify E.stamped _ _ (fun _ _ => rfl) (fun e' _ he' => by rw [hj] at he'; cases he'; exact h3.symm), ?_, ?_⟩, by simp; omega⟩
    · have hb' := e.trans hb
      rcases K.find w' a es.toList hkeys with ⟨_, h2'⟩ | ⟨j', e0', h1, h2', h3'⟩
      · exact absurd h3 (h2' e0 (List.mem_of_getElem? h2))
      · have he : e0' = e0 := keys_apart E.stamped (List.mem_of_getElem? h2') (List.mem_of_getElem? h2) (h3'.trans h3.symm)
        have hjj : j' = j := by
          have hnd : (es.toList.map (·.born)).Nodup := E.stamped.2.1
          have hjl' : j' < es.toList.length := (List.getElem?_eq_some_iff.1 h2').1
          have a1 : es.toList[j] = e0 := (List.getElem?_eq_some_iff.1 h2).2
          have a2 : es.toList[j'] = e0' := (List.getElem?_eq_some_iff.1 h2').2
          have hb2 : (es.toList.map (·.born))[j']'(by simpa using hjl') = (es.toList.map (·.born))[j]'(by simpa using hjl) := by simp only [List.getElem_map]; rw [a1, a2, he]
          exact (List.getElem_inj hnd).1 hb2
        subst hjj
        subst he
        simp [Instr.mapUpdate, run_underlying ht, MapKept.run_getObj_map hb', K.check w' false a, h1, hj, h3, K.stays w' a, MapKept.run_setObj_map _ hb', Result.andThen, setBlock]
    · intro x hx
      rw [hlist] at hx
      rcases hother x hx with rfl | ⟨hx', hne⟩
      · exact ⟨a, rfl, by simp [put]⟩
      · obtain ⟨y, e1, e2⟩ := E.keys x hx'
        refine ⟨y, e1, ?_⟩
        have : y ≠ a := fun q => hne (by rw [e1, q])
        simp [put, this, e2]
    · intro y u hy
      unfold put at hy
      rw [hlist]
      split at hy
      · rename_i q
        subst q
        exact ⟨{ e0 with key := mk y, val := v }, List.mem_iff_getElem.2 ⟨j, by simpa using hjl, by simp⟩, rfl, by simpa using hy⟩
      · rename_i q
        obtain ⟨x, hx, e1, e2⟩ := E.all y u hy
        obtain ⟨i, hi, ex⟩ := List.getElem_of_mem hx
        refine ⟨x, List.mem_iff_getElem.2 ⟨i, by simpa using hi, ?_⟩, e1, e2⟩
        rw [List.getElem_set, if_neg, ex]
        intro hji
        subst hji
        have a1 : es.toList[j] = e0 := (List.getElem?_eq_some_iff.1 h2).2
        rw [ex] at a1
        rw [a1, h3] at e1
        exact q (K.inj e1).symm
end
section
variable {α : Type} {mk : α → Value} {f : α → Option Value} {w w' : World} {b r n : Nat} {left : α → Prop} {cnt : Nat}
/-- A range over the map in block b, by the iterator in block r, under way. -/
def Rng (w : World) (b r : Nat) (mk : α → Value) (f : α → Option Value) (n : Nat) (left : α → Prop) (cnt : Nat) : Prop :=
  ∃ es clock since seen c0, w.heap[b]? = some (.map es clock) ∧ Ent mk es clock f ∧ es.size ≤ n ∧ w.heap[r]? = some (.mapIter (some b) since seen c0) ∧ (∀ x ∈ es.toList, x.born < since) ∧
    (leftOf es seen).size = cnt ∧ (∀ x ∈ es.toList, ∀ a, x.key = mk a → (left a ↔ seen.contains x.born = false)) ∧ (∀ a, left a → ∃ v, f a = some v) ∧ since ≤ c0 ∧ since ≤ clock
theorem Rng.map (h : Rng w b r mk f n left cnt) : MapIs w b mk f n := by
  obtain ⟨es, clock, _, _, _, hb, E, hs, _⟩ := h
  exact ⟨es, clock, hb, E, hs⟩
theorem Rng.ne (h : Rng w b r mk f n left cnt) : r ≠ b := by
  obtain ⟨es, clock, since, seen, c0, hb, _, _, hr, _⟩ := h
  intro e
  rw [e, hb] at hr
  cases hr
theorem Rng.lt (h : Rng w b r mk f n left cnt) : r < w.heap.size := by
  obtain ⟨es, clock, since, seen, c0, _, _, _, hr, _⟩ := h
  exact (Array.getElem?_eq_some_iff.1 hr).1
theorem Rng.blk (h : Rng w b r mk f n left cnt) (e1 : w'.heap[b]? = w.heap[b]?) (e2 : w'.heap[r]? = w.heap[r]?) : Rng w' b r mk f n left cnt := by
  obtain ⟨es, clock, since, seen, c0, hb, E, hs, hr, rest⟩ := h
  exact ⟨es, clock, since, seen, c0, e1.trans hb, E, hs, e2.trans hr, rest⟩
theorem Rng.left_eq (h : Rng w b r mk f n left cnt) : w.rangeLeft b r = cnt := by
  obtain ⟨es, clock, since, seen, c0, hb, _, _, hr, _, hc, _⟩ := h
  simp only [World.rangeLeft, hb, hr]
  exact hc
theorem MapIs.range {k t e : TypeId} (h : MapIs w b mk f n) (K : KB k mk) (ht : Try.prog.underlying t = some (.map k e)) :
    ∃ w', (Instr.range t (.map (some b))).run Try.prog w = .ok (.pointer (some ⟨w.heap.size, 0, none⟩)) w' ∧ Rng w' b w.heap.size mk f n (fun a => ∃ v, f a = some v) (w'.rangeLeft b w.heap.size) ∧ Below w.heap.size w w' ∧ w'.heap.size = w.heap.size + 1 := by
  have hlt := h.lt
  obtain ⟨es, clock, hb, E, hs⟩ := h
  have R : Rng (w.alloc (.mapIter (some b) clock #[] clock)) b w.heap.size mk f n (fun a => ∃ v, f a = some v) (leftOf es #[]).size :=
    ⟨es, clock, clock, #[], clock, ((MapKept.heap_alloc w _).2 b hlt).trans hb, E, hs, (MapKept.heap_alloc w _).1, E.stamped.1, rfl, fun x hx a e => by
      simp
      exact ⟨_, E.val K hx e⟩, fun a h => h, Nat.le_refl _, Nat.le_refl _⟩
  refine ⟨_, run_range_map w t k e b es clock ht hb, ?_, (Below.refl _ _).alloc (Nat.le_refl _) _, by simp⟩
  rw [R.left_eq]; exact R
/-- The step. -/
theorem Rng.next (h : Rng w b r mk f n left cnt) {k : TypeId} (K : KB k mk) (ty : TypeId) :
    (cnt = 0 ∧ (∀ a, ¬ left a) ∧ (Instr.next (.pointer (some ⟨r, 0, none⟩)) false ty).run Try.prog w = .ok (.tuple #[.bool false]) w) ∨
    ∃ a v w' cnt', left a ∧ f a = some v ∧ (Instr.next (.pointer (some ⟨r, 0, none⟩)) false ty).run Try.prog w = .ok (.tuple #[.bool true, mk a, v]) w' ∧ Rng w' b r mk f n (fun x => left x ∧ x ≠ a) cnt' ∧ cnt' < cnt ∧
      (∀ g, g ≠ r → w'.heap[g]? = w.heap[g]?) ∧ w.grownBy w' (some r) ∧ w'.heap.size = w.heap.size ∧ (Instr.entry (.pointer (some ⟨r, 0, none⟩))).run Try.prog w' = .ok (.tuple #[mk a, v]) w' := by
  have hne := h.ne
  obtain ⟨es, clock, since, seen, c0, hb, E, hs, hr, hold, rfl, hl1, hl2, hsc, hsk⟩ := h
  rcases run_next_at (P := Try.prog) w ty r b since c0 seen es clock hr hb hold hsc with ⟨h0, hrun⟩ | ⟨e, he, w1, hal, hrun⟩
  · refine Or.inl ⟨h0, fun a ha => ?_, hrun⟩
    obtain ⟨v, hv⟩ := hl2 a ha
    obtain ⟨x, hx, e1, _⟩ := E.all a v hv
    have := (hl1 x hx a e1).1 ha
    rw [all_seen es seen h0 x hx] at this
    cases this
  · obtain ⟨hem, hes⟩ := mem_left he
    obtain ⟨a, hka, hfa⟩ := E.keys e hem
    have hr1 : w1.heap[r]? = some (.mapIter (some b) since seen c0) := by rcases hal with rfl | rfl <;> exact hr
    have hb1 : w1.heap[b]? = some (.map es clock) := by rcases hal with rfl | rfl <;> exact hb
    have hset := heap_set (o' := .mapIter (some b) since (seen.push e.born) clock) hr1
    have hb' : (setBlock w1 r (.mapIter (some b) since (seen.push e.born) clock)).heap[b]? = some (.map es clock) := (hset.2 b (fun e1 => hne e1.symm)).trans hb1
    rw [hka] at hrun
    refine Or.inr ⟨a, e.val, _, _, (hl1 e hem a hka).2 (by simpa using hes), hfa, hrun,
      ⟨es, clock, since, seen.push e.born, clock, hb', E, hs, hset.1, hold, rfl, fun x hx y hy => ?_, fun y hy => hl2 y hy.1, hsk, hsk⟩, left_shrinks es seen e he, ?_, ?_, ?_, ?_⟩
    · rw [contains_push, Bool.or_eq_false_iff, ← hl1 x hx y hy]
      constructor
      · rintro ⟨h1, h2⟩
        refine ⟨h1, ?_⟩
        simp only [beq_eq_false_iff_ne, ne_eq]
        intro hbe
        have := born_inj E.stamped.2.1 hx hem hbe
        rw [this, hka] at hy
        exact h2 (K.inj hy).symm
      · rintro ⟨h1, h2⟩
        refine ⟨h1, fun q => ?_⟩
        subst q
        have := keys_apart E.stamped hx hem (hy.trans hka.symm)
        rw [this] at h2
        simp at h2
    · intro g hg
      rw [show (setBlock w1 r (.mapIter (some b) since (seen.push e.born) clock)).heap[g]? = w1.heap[g]? from hset.2 g hg]
      rcases hal with rfl | rfl <;> rfl
    · rcases hal with rfl | rfl <;> exact ⟨rfl, rfl, rfl, by simp [setBlock], fun i _ hi => hset.2 i (fun e1 => hi (by rw [e1]))⟩
    · rcases hal with rfl | rfl <;> simp [setBlock]
    · rw [← hka]
      exact run_entry_at _ r b since seen es clock e hset.1 hb' hem E.stamped.2.1
theorem Rng.next' (h : Rng w b r mk f n left cnt) {k : TypeId} (K : KB k mk) :
    (cnt = 0 ∧ (∀ a, ¬ left a) ∧ ∀ ty, (Instr.next (.pointer (some ⟨r, 0, none⟩)) false ty).run Try.prog w = .ok (.tuple #[.bool false]) w) ∨
    ∃ a v w' cnt', left a ∧ f a = some v ∧ (∀ ty, (Instr.next (.pointer (some ⟨r, 0, none⟩)) false ty).run Try.prog w = .ok (.tuple #[.bool true, mk a, v]) w') ∧ Rng w' b r mk f n (fun x => left x ∧ x ≠ a) cnt' ∧ cnt' < cnt ∧
      (∀ g, g ≠ r → w'.heap[g]? = w.heap[g]?) ∧ w.grownBy w' (some r) ∧ w'.heap.size = w.heap.size ∧ (Instr.entry (.pointer (some ⟨r, 0, none⟩))).run Try.prog w' = .ok (.tuple #[mk a, v]) w' := by
  rcases h.next K 0 with ⟨h1, h2, h3⟩ | ⟨a, v, w', c, h1, h2, h3, h4⟩
  · exact .inl ⟨h1, h2, fun _ => h3⟩
  · exact .inr ⟨a, v, w', c, h1, h2, fun _ => h3, h4⟩
end
section
variable {α : Type} {mk : α → Value} {f : α → Option Value} {w w' : World} {b n : Nat}
/-- v, ok := m[k]. -/
theorem MapIs.lookOk {k t e : TypeId} (h : MapIs w b mk f n) (K : KB k mk) (ht : Try.prog.underlying t = some (.map k e)) {z : Value} (hz : ∀ w, (zeroValue e).run Try.prog w = .ok z w) (a : α) :
    (Instr.lookup t (.map (some b)) (mk a) true).run Try.prog w = .ok (.tuple #[(f a).getD z, .bool (f a).isSome]) w := by
  obtain ⟨es, c, hb, E, _⟩ := h
  rcases K.find w a es.toList (fun x hx => by obtain ⟨y, e1, _⟩ := E.keys x hx; exact ⟨y, e1⟩) with ⟨h1, h2⟩ | ⟨j, e0, h1, h2, h3⟩
  · have hf : f a = none := by
      cases hfa : f a with
      | none => rfl
      | some v =>
        obtain ⟨x, hx, hk, _⟩ := E.all a v hfa
        exact absurd hk (h2 x hx)
    rw [hf]
    simp [Instr.lookup, run_underlying ht, MapKept.run_getObj_map hb, K.check w _ a, h1, hz, Result.andThen]
  · have hm : e0 ∈ es.toList := List.mem_of_getElem? h2
    rw [E.val K hm h3]
    simp [Instr.lookup, run_underlying ht, MapKept.run_getObj_map hb, K.check w _ a, h1, hz, Result.andThen]
end
end Go.Proofs.Ytnnljdnaipjoiaa
