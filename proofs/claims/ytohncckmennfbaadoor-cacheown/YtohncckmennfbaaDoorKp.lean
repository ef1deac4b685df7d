/- Keys of a third kind: a place, a pair of numbers too. -/
import Derived.Test.YtohncckmennfbaaDoorKey
namespace Go.Proofs.YtohncckmennfbaaDoor
set_option linter.unusedSimpArgs false
set_option linter.unusedVariables false
open Go.RowKit Go.MapKept
open Go.ChangeMaps (setBlock heap_setBlock_same heap_setBlock_other modify_eq_set)
theorem fields108 : Tryd.prog.underlying 106 = some (.struct (Tryd.prog.fieldsOf 106)) := by kernel_rfl
theorem held108 : Tryd.prog.stoodInHeld 106 = false := by kernel_rfl
theorem eqL (w : World) (p q : Nat × Nat) : (Op.equal 106 (mkP p) (mkP q)).run Tryd.prog w = .ok (decide (p = q)) w := by
  have h := run_equalIn_struct (P := Tryd.prog) w 9999 106 #[.int .i64 (p.1 : Int), .int .i64 (p.2 : Int)] #[.int .i64 (q.1 : Int), .int .i64 (q.2 : Int)] fields108 held108
  rw [show Op.equal 106 (mkP p) (mkP q) = Op.equalIn (9999 + 1) 106 (mkP p) (mkP q) from rfl, h]
  have hl : (Tryd.prog.fieldsOf 106).toList.map (fun f => (f.name, f.type, f.offset)) = [("slot", 3, 0), ("home", 3, 1)] := by kernel_rfl
  generalize (Tryd.prog.fieldsOf 106).toList = fs at hl
  obtain ⟨f1, f2, rfl, hf1, hf2⟩ := two hl
  simp only [Prod.mk.injEq] at hf1 hf2
  obtain ⟨n1, t1, o1⟩ := hf1
  obtain ⟨n2, t2, o2⟩ := hf2
  obtain ⟨a, b⟩ := p
  obtain ⟨c, d⟩ := q
  have i1 : ((a : Int) = (c : Int)) ↔ a = c := by omega
  have i2 : ((b : Int) = (d : Int)) ↔ b = d := by omega
  simp only [Op.eqFields, n1, t1, o1, n2, t2, o2]
  by_cases h1 : a = c <;> by_cases h2 : b = d <;> simp [part3, run_equalIn_int (P := Tryd.prog) _ 9998 3 .i64 .i64 _ _ Tryd.underlying3, Result.andThen, i1, i2, h1, h2]
theorem checkL (w : World) (em : Bool) (p : Nat × Nat) : (Instr.checkKey em 10000 106 (mkP p)).run Tryd.prog w = .ok () w := by
  unfold Instr.checkKey
  simp only [Sem.run_bind, run_underlying fields108, Result.andThen]
  rw [← Array.forIn_toList]
  have hl : (Tryd.prog.fieldsOf 106).toList.map (fun f => (f.name, f.type, f.offset)) = [("slot", 3, 0), ("home", 3, 1)] := by kernel_rfl
  generalize (Tryd.prog.fieldsOf 106).toList = fs at hl
  obtain ⟨f1, f2, rfl, hf1, hf2⟩ := two hl
  simp only [Prod.mk.injEq] at hf1 hf2
  obtain ⟨n1, t1, o1⟩ := hf1
  obtain ⟨n2, t2, o2⟩ := hf2
  have hc : ∀ z : Int, (Instr.checkKey em 9999 3 (.int .i64 z)).run Tryd.prog w = .ok () w := fun z => run_checkKey Tryd.underlying3 (show IsKey (.int .i64) (.int .i64 z) from rfl) em 9998
  simp [List.forIn_cons, n1, t1, o1, n2, t2, o2, part3, hc, Result.andThen]
theorem findL (w : World) (p : Nat × Nat) : ∀ (es : List MapEntry) (i : Nat), (∀ e ∈ es, ∃ b, e.key = mkP b) →
    ((Instr.findAsking 106 (mkP p) es i).run Tryd.prog w = .ok none w ∧ ∀ e ∈ es, e.key ≠ mkP p) ∨ ∃ j e, (Instr.findAsking 106 (mkP p) es i).run Tryd.prog w = .ok (some (i + j, e.val)) w ∧ es[j]? = some e ∧ e.key = mkP p
  | [], i, _ => by simp [Instr.findAsking]
  | e :: es, i, h => by
    obtain ⟨q, hq⟩ := h e (by simp)
    unfold Instr.findAsking
    rw [hq]
    simp only [Sem.run_bind, eqL, Result.andThen]
    by_cases hpq : p = q
    · subst hpq
      exact Or.inr ⟨0, e, by simp, rfl, hq⟩
    · simp only [hpq, decide_false, Bool.false_eq_true, if_false]
      rcases findL w p es (i + 1) (fun x hx => h x (by simp [hx])) with ⟨h1, h2⟩ | ⟨j, e', h1, h2, h3⟩
      · refine Or.inl ⟨h1, fun x hx => ?_⟩
        rcases List.mem_cons.1 hx with rfl | hx
        · rw [hq]
          intro c
          simp only [mkP, Value.agg.injEq] at c
          obtain ⟨a, b⟩ := p
          obtain ⟨a', b'⟩ := q
          simp at c
          exact hpq (by simp; omega)
        · exact h2 x hx
      · exact Or.inr ⟨j + 1, e', by rw [h1]; simp; omega, by simpa using h2, h3⟩
theorem findNowL (p : Nat × Nat) (fs : Array Field) : ∀ (es : List MapEntry), (∀ e ∈ es, ∃ b, e.key = mkP b) → Instr.findNow (.struct fs) (mkP p) es 0 = if es = [] then some none else none
  | [], _ => by simp [Instr.findNow]
  | e :: es, h => by simp [Instr.findNow, Instr.sameNow]
theorem kbL : KB 106 mkP where
  inj := mkP_inj
  check := checkL
  find := fun w p es hes => by
    have h0 : (Instr.findKey 106 (mkP p) es).run Tryd.prog w = if es = [] then .ok none w else (Instr.findAsking 106 (mkP p) es).run Tryd.prog w := by
      unfold Instr.findKey
      simp only [Sem.run_bind, run_underlying fields108, Result.andThen, findNowL p _ es hes]
      by_cases he : es = [] <;> simp [he]
    rw [h0]
    by_cases he : es = []
    · subst he; simp
    · rw [if_neg he]
      rcases findL w p es 0 hes with h | ⟨j, e, h1, h2, h3⟩
      · exact Or.inl h
      · exact Or.inr ⟨j, e, by simpa using h1, h2, h3⟩
  stays := fun w p => by
    have : Instr.sameBits 10000 (mkP p) (mkP p) = true := by simp [mkP, Instr.sameBits]
    simp [Instr.keyThatStays, this]
end Go.Proofs.YtohncckmennfbaaDoor
