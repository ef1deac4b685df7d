/- The two kinds of keys: a number, a pair of numbers; a range over a map; the map's keys as the library's sort wants them. -/
import Derived.Test.YtohncckmennfbaaDoorMap
namespace Go.Proofs.YtohncckmennfbaaDoor
set_option linter.unusedSimpArgs false
set_option linter.unusedVariables false
open Go.RowKit Go.MapKept
open Go.ChangeMaps (setBlock heap_setBlock_same heap_setBlock_other modify_eq_set)
abbrev mkI (k : Nat) : Value := .int .i64 (k : Int)
abbrev mkP (p : Nat × Nat) : Value := .agg #[.int .i64 (p.1 : Int), .int .i64 (p.2 : Int)]
theorem kbI : KB 3 mkI where
  inj := fun {a b} h => by simp only [mkI, Value.int.injEq, true_and] at h; omega
  check := fun w em a => run_checkKey Tryd.underlying3 (show IsKey (.int .i64) (mkI a) from rfl) em 9999
  find := fun w a es hes => by
    have hks : ∀ y ∈ es, IsKey (.int .i64) y.key := fun y hy => by
      obtain ⟨b, e⟩ := hes y hy
      rw [e]; rfl
    rcases findNow_spec (d := .int .i64) (k := mkI a) rfl es 0 hks with ⟨h1, h2⟩ | ⟨j, e0, h1, h2, h3⟩
    · exact Or.inl ⟨run_findKey Tryd.underlying3 h1, h2⟩
    · exact Or.inr ⟨j, e0, by simpa using run_findKey Tryd.underlying3 h1, h2, h3⟩
  stays := fun w a => run_keyThatStays (d := .int .i64) (show IsKey (.int .i64) (mkI a) from rfl)
theorem fewNats : ∀ (n : Nat) (l : List Nat), l.Nodup → (∀ x ∈ l, x < n) → l.length ≤ n
  | 0, l, _, h => by
    cases l with
    | nil => simp
    | cons a r => have := h a (by simp); omega
  | n + 1, l, hn, h => by
    have h1 := fewNats n (l.erase n) (hn.erase n) (fun x hx => by
      have := (hn.mem_erase_iff).1 hx
      have := h x this.2
      omega)
    have h2 : l.length ≤ (l.erase n).length + 1 := by
      rw [List.length_erase]
      split <;> omega
    omega
/-- Keys below n: no more than n. -/
theorem MapIs.few {w : World} {b m n : Nat} {f : Nat → Option Value} (h : MapIs w b mkI f m) (hk : ∀ k v, f k = some v → k < n) : MapIs w b mkI f n := by
  obtain ⟨es, c, hb, E, _⟩ := h
  refine ⟨es, c, hb, E, ?_⟩
  have key : ∀ x ∈ es.toList, ∃ k : Nat, x.key = mkI k ∧ k < n := fun x hx => by
    obtain ⟨k, e1, e2⟩ := E.keys x hx
    exact ⟨k, e1, hk k _ e2⟩
  have := fewNats n (es.toList.map fun x => match x.key with | .int _ z => z.toNat | _ => 0) ?_ ?_
  · simpa using this
  · refine List.pairwise_map.2 ?_
    refine List.Pairwise.imp_of_mem ?_ ((stamped_iff es c).1 E.stamped).2.2
    intro x y hx hy hne
    obtain ⟨k, e1, _⟩ := key x hx
    obtain ⟨k', e1', _⟩ := key y hy
    rw [e1, e1']
    simp only [mkI, Int.toNat_natCast]
    intro q
    exact hne (by rw [e1, e1', q])
  · intro z hz
    obtain ⟨x, hx, rfl⟩ := List.mem_map.1 hz
    obtain ⟨k, e1, h1⟩ := key x hx
    rw [e1]
    simpa using h1
theorem fields100 : Tryd.prog.underlying 110 = some (.struct (Tryd.prog.fieldsOf 110)) := by kernel_rfl
theorem held100 : Tryd.prog.stoodInHeld 110 = false := by kernel_rfl
theorem info3 : (Tryd.prog.info? 3).map (fun i => (i.zero, i.size, i.bytes)) = some (some (.int .i64 0), 1, 8) := by kernel_rfl
theorem size3 (w : World) : (sizeOf 3).run Tryd.prog w = .ok 1 w := by
  obtain ⟨i0, hi, hz0, hz1, hz2⟩ := info_parts info3
  simp [sizeOf, typeInfo, hi, hz1]
theorem part3 (w : World) (cs : Array Value) (i : Nat) (v : Value) (h : cs[i]? = some v) : (part 3 cs i).run Tryd.prog w = .ok v w := by
  simp [part, isAgg, run_underlying Tryd.underlying3, size3, h]
theorem two {β γ : Type} {g : β → γ} {l : List β} {x y : γ} (h : l.map g = [x, y]) : ∃ a b, l = [a, b] ∧ g a = x ∧ g b = y := by
  rcases l with _ | ⟨a, _ | ⟨b, _ | ⟨c, r⟩⟩⟩ <;> simp at h
  exact ⟨a, b, rfl, h⟩
theorem eqP (w : World) (p q : Nat × Nat) : (Op.equal 110 (mkP p) (mkP q)).run Tryd.prog w = .ok (decide (p = q)) w := by
  have h := run_equalIn_struct (P := Tryd.prog) w 9999 110 #[.int .i64 (p.1 : Int), .int .i64 (p.2 : Int)] #[.int .i64 (q.1 : Int), .int .i64 (q.2 : Int)] fields100 held100
  rw [show Op.equal 110 (mkP p) (mkP q) = Op.equalIn (9999 + 1) 110 (mkP p) (mkP q) from rfl, h]
  have hl : (Tryd.prog.fieldsOf 110).toList.map (fun f => (f.name, f.type, f.offset)) = [("block", 3, 0), ("turn", 3, 1)] := by kernel_rfl
  generalize (Tryd.prog.fieldsOf 110).toList = fs at hl
  obtain ⟨f1, f2, rfl, hf1, hf2⟩ := two hl
  simp only [Prod.mk.injEq] at hf1 hf2
  obtain ⟨n1, t1, o1⟩ := hf1
  obtain ⟨n2, t2, o2⟩ := hf2
  obtain ⟨a, b⟩ := p
  obtain ⟨c, d⟩ := q
  have i1 : ((a : Int) = (c : Int)) ↔ a = c := by omega
  have i2 : ((b : Int) = (d : Int)) ↔ b = d := by omega
  simp only [Op.eqFields, n1, t1, o1, n2, t2, o2]
  by_cases h1 : a = c <;> by_cases h2 : b = d <;> simp [part3, run_equalIn_int (P := Tryd.prog) _ 9998 3 .i64 .i64 _ _ Tryd.underlying3, Result.andThen, i1, i2, h1, h2]
theorem checkP (w : World) (em : Bool) (p : Nat × Nat) : (Instr.checkKey em 10000 110 (mkP p)).run Tryd.prog w = .ok () w := by
  unfold Instr.checkKey
  simp only [Sem.run_bind, run_underlying fields100, Result.andThen]
  rw [← Array.forIn_toList]
  have hl : (Tryd.prog.fieldsOf 110).toList.map (fun f => (f.name, f.type, f.offset)) = [("block", 3, 0), ("turn", 3, 1)] := by kernel_rfl
  generalize (Tryd.prog.fieldsOf 110).toList = fs at hl
  obtain ⟨f1, f2, rfl, hf1, hf2⟩ := two hl
  simp only [Prod.mk.injEq] at hf1 hf2
  obtain ⟨n1, t1, o1⟩ := hf1
  obtain ⟨n2, t2, o2⟩ := hf2
  have hc : ∀ z : Int, (Instr.checkKey em 9999 3 (.int .i64 z)).run Tryd.prog w = .ok () w := fun z => run_checkKey Tryd.underlying3 (show IsKey (.int .i64) (.int .i64 z) from rfl) em 9998
  simp [List.forIn_cons, n1, t1, o1, n2, t2, o2, part3, hc, Result.andThen]
theorem findP (w : World) (p : Nat × Nat) : ∀ (es : List MapEntry) (i : Nat), (∀ e ∈ es, ∃ b, e.key = mkP b) →
    ((Instr.findAsking 110 (mkP p) es i).run Tryd.prog w = .ok none w ∧ ∀ e ∈ es, e.key ≠ mkP p) ∨ ∃ j e, (Instr.findAsking 110 (mkP p) es i).run Tryd.prog w = .ok (some (i + j, e.val)) w ∧ es[j]? = some e ∧ e.key = mkP p
  | [], i, _ => by simp [Instr.findAsking]
  | e :: es, i, h => by
    obtain ⟨q, hq⟩ := h e (by simp)
    unfold Instr.findAsking
    rw [hq]
    simp only [Sem.run_bind, eqP, Result.andThen]
    by_cases hpq : p = q
    · subst hpq
      exact Or.inr ⟨0, e, by simp, rfl, hq⟩
    · simp only [hpq, decide_false, Bool.false_eq_true, if_false]
      rcases findP w p es (i + 1) (fun x hx => h x (by simp [hx])) with ⟨h1, h2⟩ | ⟨j, e', h1, h2, h3⟩
      · refine Or.inl ⟨h1, fun x hx => ?_⟩
        rcases List.mem_cons.1 hx with rfl | hx
        · rw [hq]
          intro c
          simp only [mkP, Value.agg.injEq] at c
          obtain ⟨a, b⟩ := p
          obtain ⟨a', b'⟩ := q
          simp at c
          exact hpq (by simp; omega)
        · exact h2 x hx
      · exact Or.inr ⟨j + 1, e', by rw [h1]; simp; omega, by simpa using h2, h3⟩
theorem mkP_inj {p q : Nat × Nat} (c : mkP p = mkP q) : p = q := by
  simp only [mkP, Value.agg.injEq] at c
  obtain ⟨a, b⟩ := p
  obtain ⟨a', b'⟩ := q
  simp at c
  simp; omega
theorem findNowP (p : Nat × Nat) (fs : Array Field) : ∀ (es : List MapEntry), (∀ e ∈ es, ∃ b, e.key = mkP b) → Instr.findNow (.struct fs) (mkP p) es 0 = if es = [] then some none else none
  | [], _ => by simp [Instr.findNow]
  | e :: es, h => by simp [Instr.findNow, Instr.sameNow]
theorem kbP : KB 110 mkP where
  inj := mkP_inj
  check := checkP
  find := fun w p es hes => by
    have h0 : (Instr.findKey 110 (mkP p) es).run Tryd.prog w = if es = [] then .ok none w else (Instr.findAsking 110 (mkP p) es).run Tryd.prog w := by
      unfold Instr.findKey
      simp only [Sem.run_bind, run_underlying fields100, Result.andThen, findNowP p _ es hes]
      by_cases he : es = [] <;> simp [he]
    rw [h0]
    by_cases he : es = []
    · subst he; simp
    · rw [if_neg he]
      rcases findP w p es 0 hes with h | ⟨j, e, h1, h2, h3⟩
      · exact Or.inl h
      · exact Or.inr ⟨j, e, by simpa using h1, h2, h3⟩
  stays := fun w p => by
    have : Instr.sameBits 10000 (mkP p) (mkP p) = true := by simp [mkP, Instr.sameBits]
    simp [Instr.keyThatStays, this]
section
variable {α : Type} {mk : α → Value} {f : α → Option Value} {w w' : World} {b r n : Nat} {left : α → Prop} {cnt : Nat}
/-- A range over the map in block b, by the iterator in block r, under way. -/
def Rng (w : World) (b r : Nat) (mk : α → Value) (f : α → Option Value) (n : Nat) (left : α → Prop) (cnt : Nat) : Prop :=
  ∃ es clock since seen c0, w.heap[b]? = some (.map es clock) ∧ Ent mk es clock f ∧ es.size ≤ n ∧ w.heap[r]? = some (.mapIter (some b) since seen c0) ∧ (∀ x ∈ es.toList, x.born < since) ∧
    (leftOf es seen).size = cnt ∧ (∀ x ∈ es.toList, ∀ a, x.key = mk a → (left a ↔ seen.contains x.born = false)) ∧ (∀ a, left a → ∃ v, f a = some v) ∧ since ≤ c0 ∧ since ≤ clock
theorem Rng.map (h : Rng w b r mk f n left cnt) : MapIs w b mk f n := by
  obtain ⟨es, clock, _, _, _, hb, E, hs, _⟩ := h
  exact ⟨es, clock, hb, E, hs⟩
theorem Rng.ne (h : Rng w b r mk f n left cnt) : r ≠ b := by
  obtain ⟨es, clock, since, seen, c0, hb, _, _, hr, _⟩ := h
  intro e
  rw [e, hb] at hr
  cases hr
theorem Rng.lt (h : Rng w b r mk f n left cnt) : r < w.heap.size := by
  obtain ⟨es, clock, since, seen, c0, _, _, _, hr, _⟩ := h
  exact (Array.getElem?_eq_some_iff.1 hr).1
theorem Rng.blk (h : Rng w b r mk f n left cnt) (e1 : w'.heap[b]? = w.heap[b]?) (e2 : w'.heap[r]? = w.heap[r]?) : Rng w' b r mk f n left cnt := by
  obtain ⟨es, clock, since, seen, c0, hb, E, hs, hr, rest⟩ := h
  exact ⟨es, clock, since, seen, c0, e1.trans hb, E, hs, e2.trans hr, rest⟩
theorem Rng.left_eq (h : Rng w b r mk f n left cnt) : w.rangeLeft b r = cnt := by
  obtain ⟨es, clock, since, seen, c0, hb, _, _, hr, _, hc, _⟩ := h
  simp only [World.rangeLeft, hb, hr]
  exact hc
theorem MapIs.range {k t e : TypeId} (h : MapIs w b mk f n) (K : KB k mk) (ht : Tryd.prog.underlying t = some (.map k e)) :
    ∃ w', (Instr.range t (.map (some b))).run Tryd.prog w = .ok (.pointer (some ⟨w.heap.size, 0, none⟩)) w' ∧ Rng w' b w.heap.size mk f n (fun a => ∃ v, f a = some v) (w'.rangeLeft b w.heap.size) ∧ Below w.heap.size w w' ∧ w'.heap.size = w.heap.size + 1 := by
  have hlt := h.lt
  obtain ⟨es, clock, hb, E, hs⟩ := h
  have R : Rng (w.alloc (.mapIter (some b) clock #[] clock)) b w.heap.size mk f n (fun a => ∃ v, f a = some v) (leftOf es #[]).size :=
    ⟨es, clock, clock, #[], clock, ((MapKept.heap_alloc w _).2 b hlt).trans hb, E, hs, (MapKept.heap_alloc w _).1, E.stamped.1, rfl, fun x hx a e => by
      simp
      exact ⟨_, E.val K hx e⟩, fun a h => h, Nat.le_refl _, Nat.le_refl _⟩
  refine ⟨_, run_range_map w t k e b es clock ht hb, ?_, (Below.refl _ _).alloc (Nat.le_refl _) _, by simp⟩
  rw [R.left_eq]; exact R
/-- The step. -/
theorem Rng.next (h : Rng w b r mk f n left cnt) {k : TypeId} (K : KB k mk) (ty : TypeId) :
    (cnt = 0 ∧ (∀ a, ¬ left a) ∧ (Instr.next (.pointer (some ⟨r, 0, none⟩)) false ty).run Tryd.prog w = .ok (.tuple #[.bool false]) w) ∨
    ∃ a v w' cnt', left a ∧ f a = some v ∧ (Instr.next (.pointer (some ⟨r, 0, none⟩)) false ty).run Tryd.prog w = .ok (.tuple #[.bool true, mk a, v]) w' ∧ Rng w' b r mk f n (fun x => left x ∧ x ≠ a) cnt' ∧ cnt' < cnt ∧
      (∀ g, g ≠ r → w'.heap[g]? = w.heap[g]?) ∧ w.grownBy w' (some r) ∧ w'.heap.size = w.heap.size ∧ (Instr.entry (.pointer (some ⟨r, 0, none⟩))).run Tryd.prog w' = .ok (.tuple #[mk a, v]) w' := by
  have hne := h.ne
  obtain ⟨es, clock, since, seen, c0, hb, E, hs, hr, hold, rfl, hl1, hl2, hsc, hsk⟩ := h
  rcases run_next_at (P := Tryd.prog) w ty r b since c0 seen es clock hr hb hold hsc with ⟨h0, hrun⟩ | ⟨e, he, w1, hal, hrun⟩
  · refine Or.inl ⟨h0, fun a ha => ?_, hrun⟩
    obtain ⟨v, hv⟩ := hl2 a ha
    obtain ⟨x, hx, e1, _⟩ := E.all a v hv
    have := (hl1 x hx a e1).1 ha
    rw [all_seen es seen h0 x hx] at this
    cases this
  · obtain ⟨hem, hes⟩ := mem_left he
    obtain ⟨a, hka, hfa⟩ := E.keys e hem
    have hr1 : w1.heap[r]? = some (.mapIter (some b) since seen c0) := by rcases hal with rfl | rfl <;> exact hr
    have hb1 : w1.heap[b]? = some (.map es clock) := by rcases hal with rfl | rfl <;> exact hb
    have hset := heap_set (o' := .mapIter (some b) since (seen.push e.born) clock) hr1
    have hb' : (setBlock w1 r (.mapIter (some b) since (seen.push e.born) clock)).heap[b]? = some (.map es clock) := (hset.2 b (fun e1 => hne e1.symm)).trans hb1
    rw [hka] at hrun
    refine Or.inr ⟨a, e.val, _, _, (hl1 e hem a hka).2 (by simpa using hes), hfa, hrun,
      ⟨es, clock, since, seen.push e.born, clock, hb', E, hs, hset.1, hold, rfl, fun x hx y hy => ?_, fun y hy => hl2 y hy.1, hsk, hsk⟩, left_shrinks es seen e he, ?_, ?_, ?_, ?_⟩
    · rw [contains_push, Bool.or_eq_false_iff, ← hl1 x hx y hy]
      constructor
      · rintro ⟨h1, h2⟩
        refine ⟨h1, ?_⟩
        simp only [beq_eq_false_iff_ne, ne_eq]
        intro hbe
        have := born_inj E.stamped.2.1 hx hem hbe
        rw [this, hka] at hy
        exact h2 (K.inj hy).symm
      · rintro ⟨h1, h2⟩
        refine ⟨h1, fun q => ?_⟩
        subst q
        have := keys_apart E.stamped hx hem (hy.trans hka.symm)
        rw [this] at h2
        simp at h2
    · intro g hg
      rw [show (setBlock w1 r (.mapIter (some b) since (seen.push e.born) clock)).heap[g]? = w1.heap[g]? from hset.2 g hg]
      rcases hal with rfl | rfl <;> rfl
    · rcases hal with rfl | rfl <;> exact ⟨rfl, rfl, rfl, by simp [setBlock], fun i _ hi => hset.2 i (fun e1 => hi (by rw [e1]))⟩
    · rcases hal with rfl | rfl <;> simp [setBlock]
    · rw [← hka]
      exact run_entry_at _ r b since seen es clock e hset.1 hb' hem E.stamped.2.1
theorem Rng.next' (h : Rng w b r mk f n left cnt) {k : TypeId} (K : KB k mk) :
    (cnt = 0 ∧ (∀ a, ¬ left a) ∧ ∀ ty, (Instr.next (.pointer (some ⟨r, 0, none⟩)) false ty).run Tryd.prog w = .ok (.tuple #[.bool false]) w) ∨
    ∃ a v w' cnt', left a ∧ f a = some v ∧ (∀ ty, (Instr.next (.pointer (some ⟨r, 0, none⟩)) false ty).run Tryd.prog w = .ok (.tuple #[.bool true, mk a, v]) w') ∧ Rng w' b r mk f n (fun x => left x ∧ x ≠ a) cnt' ∧ cnt' < cnt ∧
      (∀ g, g ≠ r → w'.heap[g]? = w.heap[g]?) ∧ w.grownBy w' (some r) ∧ w'.heap.size = w.heap.size ∧ (Instr.entry (.pointer (some ⟨r, 0, none⟩))).run Tryd.prog w' = .ok (.tuple #[mk a, v]) w' := by
  rcases h.next K 0 with ⟨h1, h2, h3⟩ | ⟨a, v, w', c, h1, h2, h3, h4⟩
  · exact .inl ⟨h1, h2, fun _ => h3⟩
  · exact .inr ⟨a, v, w', c, h1, h2, fun _ => h3, h4⟩
end
end Go.Proofs.YtohncckmennfbaaDoor
