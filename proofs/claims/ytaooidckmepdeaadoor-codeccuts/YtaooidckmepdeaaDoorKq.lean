/- The table's keys: pairs of numbers. -/
import Derived.Test.YtaooidckmepdeaaDoorMap
namespace Go.Proofs.YtaooidckmepdeaaDoor
set_option linter.unusedSimpArgs false
set_option linter.unusedVariables false
open Go.RowKit Go.MapKept
open Go.ChangeMaps (setBlock heap_setBlock_same heap_setBlock_other modify_eq_set)
abbrev mkP (p : Int × Int) : Value := .agg #[.int .i64 p.1, .int .i64 p.2]
theorem fields100 : Tryd.prog.underlying 98 = some (.struct (Tryd.prog.fieldsOf 98)) := by kernel_rfl
theorem held100 : Tryd.prog.stoodInHeld 98 = false := by kernel_rfl
theorem info58 : (Tryd.prog.info? 58).map (fun i => (i.zero, i.size, i.bytes)) = some (some (.int .i64 0), 1, 8) := by kernel_rfl
theorem info3 : (Tryd.prog.info? 3).map (fun i => (i.zero, i.size, i.bytes)) = some (some (.int .i64 0), 1, 8) := by kernel_rfl
theorem size3 (w : World) : (sizeOf 3).run Tryd.prog w = .ok 1 w := by
  obtain ⟨i0, hi, hz0, hz1, hz2⟩ := info_parts info3
  simp [sizeOf, typeInfo, hi, hz1]
theorem part3 (w : World) (cs : Array Value) (i : Nat) (v : Value) (h : cs[i]? = some v) : (part 3 cs i).run Tryd.prog w = .ok v w := by
  simp [part, isAgg, run_underlying Tryd.underlying3, size3, h]
theorem size58 (w : World) : (sizeOf 58).run Tryd.prog w = .ok 1 w := by
  obtain ⟨i0, hi, hz0, hz1, hz2⟩ := info_parts info58
  simp [sizeOf, typeInfo, hi, hz1]
theorem part58 (w : World) (cs : Array Value) (i : Nat) (v : Value) (h : cs[i]? = some v) : (part 58 cs i).run Tryd.prog w = .ok v w := by
  simp [part, isAgg, run_underlying Tryd.underlying58, size58, h]
theorem two {β γ : Type} {g : β → γ} {l : List β} {x y : γ} (h : l.map g = [x, y]) : ∃ a b, l = [a, b] ∧ g a = x ∧ g b = y := by
  rcases l with _ | ⟨a, _ | ⟨b, _ | ⟨c, r⟩⟩⟩ <;> simp at h
  exact ⟨a, b, rfl, h⟩
theorem eqP (w : World) (p q : Int × Int) : (Op.equal 98 (mkP p) (mkP q)).run Tryd.prog w = .ok (decide (p = q)) w := by
  have h := run_equalIn_struct (P := Tryd.prog) w 9999 98 #[.int .i64 p.1, .int .i64 p.2] #[.int .i64 q.1, .int .i64 q.2] fields100 held100
  rw [show Op.equal 98 (mkP p) (mkP q) = Op.equalIn (9999 + 1) 98 (mkP p) (mkP q) from rfl, h]
  have hl : (Tryd.prog.fieldsOf 98).toList.map (fun f => (f.name, f.type, f.offset)) = [("way", 58, 0), ("kind", 3, 1)] := by kernel_rfl
  generalize (Tryd.prog.fieldsOf 98).toList = fs at hl
  obtain ⟨f1, f2, rfl, hf1, hf2⟩ := two hl
  simp only [Prod.mk.injEq] at hf1 hf2
  obtain ⟨n1, t1, o1⟩ := hf1
  obtain ⟨n2, t2, o2⟩ := hf2
  obtain ⟨a, b⟩ := p
  obtain ⟨c, d⟩ := q
  simp only [Op.eqFields, n1, t1, o1, n2, t2, o2]
  by_cases h1 : a = c <;> by_cases h2 : b = d <;> simp [part3, part58, run_equalIn_int (P := Tryd.prog) _ 9998 3 .i64 .i64 _ _ Tryd.underlying3, run_equalIn_int (P := Tryd.prog) _ 9998 58 .i64 .i64 _ _ Tryd.underlying58, Result.andThen, h1, h2]
theorem checkP (w : World) (em : Bool) (p : Int × Int) : (Instr.checkKey em 10000 98 (mkP p)).run Tryd.prog w = .ok () w := by
  unfold Instr.checkKey
  simp only [Sem.run_bind, run_underlying fields100, Result.andThen]
  rw [← Array.forIn_toList]
  have hl : (Tryd.prog.fieldsOf 98).toList.map (fun f => (f.name, f.type, f.offset)) = [("way", 58, 0), ("kind", 3, 1)] := by kernel_rfl
  generalize (Tryd.prog.fieldsOf 98).toList = fs at hl
  obtain ⟨f1, f2, rfl, hf1, hf2⟩ := two hl
  simp only [Prod.mk.injEq] at hf1 hf2
  obtain ⟨n1, t1, o1⟩ := hf1
  obtain ⟨n2, t2, o2⟩ := hf2
  have hc : ∀ z : Int, (Instr.checkKey em 9999 3 (.int .i64 z)).run Tryd.prog w = .ok () w := fun z => run_checkKey Tryd.underlying3 (show IsKey (.int .i64) (.int .i64 z) from rfl) em 9998
  have hc2 : ∀ z : Int, (Instr.checkKey em 9999 58 (.int .i64 z)).run Tryd.prog w = .ok () w := fun z => run_checkKey Tryd.underlying58 (show IsKey (.int .i64) (.int .i64 z) from rfl) em 9998
  simp [List.forIn_cons, n1, t1, o1, n2, t2, o2, part3, part58, hc, hc2, Result.andThen]
theorem findP (w : World) (p : Int × Int) : ∀ (es : List MapEntry) (i : Nat), (∀ e ∈ es, ∃ b, e.key = mkP b) →
    ((Instr.findAsking 98 (mkP p) es i).run Tryd.prog w = .ok none w ∧ ∀ e ∈ es, e.key ≠ mkP p) ∨ ∃ j e, (Instr.findAsking 98 (mkP p) es i).run Tryd.prog w = .ok (some (i + j, e.val)) w ∧ es[j]? = some e ∧ e.key = mkP p
  | [], i, _ => by simp [Instr.findAsking]
  | e :: es, i, h => by
    obtain ⟨q, hq⟩ := h e (by simp)
    unfold Instr.findAsking
    rw [hq]
    simp only [Sem.run_bind, eqP, Result.andThen]
    by_cases hpq : p = q
    · subst hpq
      exact Or.inr ⟨0, e, by simp, rfl, hq⟩
    · simp only [hpq, decide_false, Bool.false_eq_true, if_false]
      rcases findP w p es (i + 1) (fun x hx => h x (by simp [hx])) with ⟨h1, h2⟩ | ⟨j, e', h1, h2, h3⟩
      · refine Or.inl ⟨h1, fun x hx => ?_⟩
        rcases List.mem_cons.1 hx with rfl | hx
        · rw [hq]
          intro c
          simp only [mkP, Value.agg.injEq] at c
          obtain ⟨a, b⟩ := p
          obtain ⟨a', b'⟩ := q
          simp at c
          exact hpq (by rw [c.1, c.2])
        · exact h2 x hx
      · exact Or.inr ⟨j + 1, e', by rw [h1]; simp; omega, by simpa using h2, h3⟩
theorem mkP_inj {p q : Int × Int} (c : mkP p = mkP q) : p = q := by
  simp only [mkP, Value.agg.injEq] at c
  obtain ⟨a, b⟩ := p
  obtain ⟨a', b'⟩ := q
  simp at c
  rw [c.1, c.2]
theorem findNowP (p : Int × Int) (fs : Array Field) : ∀ (es : List MapEntry), (∀ e ∈ es, ∃ b, e.key = mkP b) → Instr.findNow (.struct fs) (mkP p) es 0 = if es = [] then some none else none
  | [], _ => by simp [Instr.findNow]
  | e :: es, h => by simp [Instr.findNow, Instr.sameNow]
theorem kbP : KB 98 mkP where
  inj := mkP_inj
  check := checkP
  find := fun w p es hes => by
    have h0 : (Instr.findKey 98 (mkP p) es).run Tryd.prog w = if es = [] then .ok none w else (Instr.findAsking 98 (mkP p) es).run Tryd.prog w := by
      unfold Instr.findKey
      simp only [Sem.run_bind, run_underlying fields100, Result.andThen, findNowP p _ es hes]
      by_cases he : es = [] <;> simp [he]
    rw [h0]
    by_cases he : es = []
    · subst he; simp
    · rw [if_neg he]
      rcases findP w p es 0 hes with h | ⟨j, e, h1, h2, h3⟩
      · exact Or.inl h
      · exact Or.inr ⟨j, e, by simpa using h1, h2, h3⟩
  stays := fun w p => by
    have : Instr.sameBits 10000 (mkP p) (mkP p) = true := by simp [mkP, Instr.sameBits]
    simp [Instr.keyThatStays, this]
end Go.Proofs.YtaooidckmepdeaaDoor
