/- The three kinds of keys: a partition (a text, a number), a record's place (with two numbers more), a producer's turn (with two numbers more). -/
import Derived.Test.YtnnljdnaipjoiaaMap
namespace Go.Proofs.Ytnnljdnaipjoiaa
set_option linter.unusedSimpArgs false
set_option linter.unusedVariables false
open Go.RowKit Go.MapKept
abbrev PK := ByteArray × Int
abbrev SK := ByteArray × Int × Int
abbrev TK := ByteArray × Int × Int × Int
abbrev mkP (p : PK) : Value := .agg #[.string p.1, .int .i64 p.2]
/-- A sum of two ints: how often it has gone round, and what is left of it. -/
def rnd (z : Int) : Int := (z + 9223372036854775808) / 18446744073709551616
def rst (z : Int) : Int := z - 18446744073709551616 * rnd z
theorem rr_inj {a b : Int} (h1 : rnd a = rnd b) (h2 : rst a = rst b) : a = b := by
  unfold rst at h2
  rw [h1] at h2
  omega
abbrev mkS (p : SK) : Value := .agg #[.string p.1, .int .i64 p.2.1, .int .i64 (rnd p.2.2), .int .i64 (rst p.2.2)]
abbrev mkT (p : TK) : Value := .agg #[.string p.1, .int .i64 p.2.1, .int .i64 p.2.2.1, .int .i64 p.2.2.2]
theorem info3 : (Try.prog.info? 3).map (fun i => (i.zero, i.size, i.bytes)) = some (some (.int .i64 0), 1, 8) := by kernel_rfl
theorem size3 (w : World) : (sizeOf 3).run Try.prog w = .ok 1 w := by
  obtain ⟨i0, hi, hz0, hz1, hz2⟩ := info_parts info3
  simp [sizeOf, typeInfo, hi, hz1]
theorem part3 (w : World) (cs : Array Value) (i : Nat) (v : Value) (h : cs[i]? = some v) : (part 3 cs i).run Try.prog w = .ok v w := by
  simp [part, isAgg, run_underlying Try.underlying3, h]
theorem part9 (w : World) (cs : Array Value) (i : Nat) (v : Value) (h : cs[i]? = some v) : (part 9 cs i).run Try.prog w = .ok v w := by
  simp [part, isAgg, run_underlying Try.underlying9, h]
theorem fields69 : Try.prog.underlying 69 = some (.struct (Try.prog.fieldsOf 69)) := by kernel_rfl
theorem fields81 : Try.prog.underlying 81 = some (.struct (Try.prog.fieldsOf 81)) := by kernel_rfl
theorem fields83 : Try.prog.underlying 83 = some (.struct (Try.prog.fieldsOf 83)) := by kernel_rfl
theorem fields86 : Try.prog.underlying 86 = some (.struct (Try.prog.fieldsOf 86)) := by kernel_rfl
theorem held69 : Try.prog.stoodInHeld 69 = false := by kernel_rfl
theorem held81 : Try.prog.stoodInHeld 81 = false := by kernel_rfl
theorem held83 : Try.prog.stoodInHeld 83 = false := by kernel_rfl
theorem held86 : Try.prog.stoodInHeld 86 = false := by kernel_rfl
theorem list69 : (Try.prog.fieldsOf 69).toList.map (fun f => (f.name, f.type, f.offset)) = [("topic", 9, 0), ("part", 3, 1)] := by kernel_rfl
theorem list81 : (Try.prog.fieldsOf 81).toList.map (fun f => (f.name, f.type, f.offset)) = [("rounds", 3, 0), ("rest", 3, 1)] := by kernel_rfl
theorem list83 : (Try.prog.fieldsOf 83).toList.map (fun f => (f.name, f.type, f.offset)) = [("partition", 69, 0), ("offset", 81, 2)] := by kernel_rfl
theorem list86 : (Try.prog.fieldsOf 86).toList.map (fun f => (f.name, f.type, f.offset)) = [("partition", 69, 0), ("producer", 3, 2), ("seq", 3, 3)] := by kernel_rfl
theorem size69 (w : World) : (sizeOf 69).run Try.prog w = .ok 2 w := by
  have h : (Try.prog.info? 69).map (fun i => i.size) = some 2 := by kernel_rfl
  obtain ⟨i, hi, e⟩ := Option.map_eq_some_iff.1 h
  simp [sizeOf, typeInfo, hi, e]
theorem size81 (w : World) : (sizeOf 81).run Try.prog w = .ok 2 w := by
  have h : (Try.prog.info? 81).map (fun i => i.size) = some 2 := by kernel_rfl
  obtain ⟨i, hi, e⟩ := Option.map_eq_some_iff.1 h
  simp [sizeOf, typeInfo, hi, e]
theorem part69 (w : World) (cs : Array Value) (i : Nat) : (part 69 cs i).run Try.prog w = .ok (.agg (cs.extract i (i + 2))) w := by
  simp [part, isAgg, run_underlying fields69, size69]
theorem part81 (w : World) (cs : Array Value) (i : Nat) : (part 81 cs i).run Try.prog w = .ok (.agg (cs.extract i (i + 2))) w := by
  simp [part, isAgg, run_underlying fields81, size81]
theorem two {β γ : Type} {g : β → γ} {l : List β} {x y : γ} (h : l.map g = [x, y]) : ∃ a b, l = [a, b] ∧ g a = x ∧ g b = y := by
  rcases l with _ | ⟨a, _ | ⟨b, _ | ⟨c, r⟩⟩⟩ <;> simp at h
  exact ⟨a, b, rfl, h⟩
theorem three {β γ : Type} {g : β → γ} {l : List β} {x y z : γ} (h : l.map g = [x, y, z]) : ∃ a b c, l = [a, b, c] ∧ g a = x ∧ g b = y ∧ g c = z := by
  rcases l with _ | ⟨a, _ | ⟨b, _ | ⟨c, _ | ⟨d, r⟩⟩⟩⟩ <;> simp at h
  exact ⟨a, b, c, rfl, h⟩
theorem str_beq (a b : ByteArray) : (a.toList == b.toList) = decide (a = b) := by
  by_cases h : a = b
  · subst h; simp
  · rw [decide_eq_false h]
    rw [beq_eq_false_iff_ne]
    intro e
    rw [ByteArray.toList_eq, ByteArray.toList_eq] at e
    apply h
    apply ByteArray.ext
    exact Array.toList_inj.1 e
theorem str_self (a : ByteArray) : (a == a) = true := by rw [beq_toListBytes]; simp
theorem eq69 (w : World) (d : Nat) (a b : ByteArray) (x y : Int) : (Op.equalIn (d + 2) 69 (.agg #[.string a, .int .i64 x]) (.agg #[.string b, .int .i64 y])).run Try.prog w = .ok (decide (a = b ∧ x = y)) w := by
  rw [run_equalIn_struct (P := Try.prog) w (d + 1) 69 _ _ fields69 held69]
  have hl := list69
  generalize (Try.prog.fieldsOf 69).toList = fs at hl
  obtain ⟨f1, f2, rfl, hf1, hf2⟩ := two hl
  simp only [Prod.mk.injEq] at hf1 hf2
  obtain ⟨n1, t1, o1⟩ := hf1
  obtain ⟨n2, t2, o2⟩ := hf2
  simp only [Op.eqFields, n1, t1, o1, n2, t2, o2]
  by_cases h1 : a = b <;> by_cases h2 : x = y <;> simp [part3, part9, run_equalIn_string (P := Try.prog) _ d 9 _ _ Try.underlying9, run_equalIn_int (P := Try.prog) _ d 3 .i64 .i64 _ _ Try.underlying3, str_beq, Result.andThen, h1, h2]
theorem eq81 (w : World) (d : Nat) (a b x y : Int) : (Op.equalIn (d + 2) 81 (.agg #[.int .i64 a, .int .i64 x]) (.agg #[.int .i64 b, .int .i64 y])).run Try.prog w = .ok (decide (a = b ∧ x = y)) w := by
  rw [run_equalIn_struct (P := Try.prog) w (d + 1) 81 _ _ fields81 held81]
  have hl := list81
  generalize (Try.prog.fieldsOf 81).toList = fs at hl
  obtain ⟨f1, f2, rfl, hf1, hf2⟩ := two hl
  simp only [Prod.mk.injEq] at hf1 hf2
  obtain ⟨n1, t1, o1⟩ := hf1
  obtain ⟨n2, t2, o2⟩ := hf2
  simp only [Op.eqFields, n1, t1, o1, n2, t2, o2]
  by_cases h1 : a = b <;> by_cases h2 : x = y <;> simp [part3, run_equalIn_int (P := Try.prog) _ d 3 .i64 .i64 _ _ Try.underlying3, Result.andThen, h1, h2]
theorem eqP (w : World) (p q : PK) : (Op.equal 69 (mkP p) (mkP q)).run Try.prog w = .ok (decide (p = q)) w := by
  rw [show Op.equal 69 (mkP p) (mkP q) = Op.equalIn (9998 + 2) 69 (mkP p) (mkP q) from rfl, eq69]
  simp [Prod.ext_iff]
theorem eqS (w : World) (p q : SK) : (Op.equal 83 (mkS p) (mkS q)).run Try.prog w = .ok (decide (p = q)) w := by
  rw [show Op.equal 83 (mkS p) (mkS q) = Op.equalIn (9999 + 1) 83 (mkS p) (mkS q) from rfl, run_equalIn_struct (P := Try.prog) w 9999 83 _ _ fields83 held83]
  have hl := list83
  generalize (Try.prog.fieldsOf 83).toList = fs at hl
  obtain ⟨f1, f2, rfl, hf1, hf2⟩ := two hl
  simp only [Prod.mk.injEq] at hf1 hf2
  obtain ⟨n1, t1, o1⟩ := hf1
  obtain ⟨n2, t2, o2⟩ := hf2
  obtain ⟨a, x, y⟩ := p
  obtain ⟨b, x', y'⟩ := q
  have e1 : ∀ w a b x x', (Op.equalIn 9999 69 (.agg #[.string a, .int .i64 x]) (.agg #[.string b, .int .i64 x'])).run Try.prog w = .ok (decide (a = b ∧ x = x')) w := fun w a b x x' => eq69 w 9997 a b x x'
  have e2 : ∀ w y y', (Op.equalIn 9999 81 (.agg #[.int .i64 (rnd y), .int .i64 (rst y)]) (.agg #[.int .i64 (rnd y'), .int .i64 (rst y')])).run Try.prog w = .ok (decide (y = y')) w := fun w y y' => by
    rw [show decide (y = y') = decide (rnd y = rnd y' ∧ rst y = rst y') from decide_eq_decide.2 ⟨fun h => by rw [h]; exact ⟨rfl, rfl⟩, fun h => rr_inj h.1 h.2⟩]
    exact eq81 w 9997 _ _ _ _
  simp only [Op.eqFields, n1, t1, o1, n2, t2, o2]
  by_cases h1 : a = b ∧ x = x' <;> by_cases h2 : y = y' <;> simp [part69, part81, e1, e2, Result.andThen, h1, h2]
theorem eqT (w : World) (p q : TK) : (Op.equal 86 (mkT p) (mkT q)).run Try.prog w = .ok (decide (p = q)) w := by
  rw [show Op.equal 86 (mkT p) (mkT q) = Op.equalIn (9999 + 1) 86 (mkT p) (mkT q) from rfl, run_equalIn_struct (P := Try.prog) w 9999 86 _ _ fields86 held86]
  have hl := list86
  generalize (Try.prog.fieldsOf 86).toList = fs at hl
  obtain ⟨f1, f2, f3, rfl, hf1, hf2, hf3⟩ := three hl
  simp only [Prod.mk.injEq] at hf1 hf2 hf3
  obtain ⟨n1, t1, o1⟩ := hf1
  obtain ⟨n2, t2, o2⟩ := hf2
  obtain ⟨n3, t3, o3⟩ := hf3
  obtain ⟨a, x, y, z⟩ := p
  obtain ⟨b, x', y', z'⟩ := q
  have e1 : ∀ w a b x x', (Op.equalIn 9999 69 (.agg #[.string a, .int .i64 x]) (.agg #[.string b, .int .i64 x'])).run Try.prog w = .ok (decide (a = b ∧ x = x')) w := fun w a b x x' => eq69 w 9997 a b x x'
  simp only [Op.eqFields, n1, t1, o1, n2, t2, o2, n3, t3, o3]
  by_cases h1 : a = b ∧ x = x' <;> by_cases h2 : y = y' <;> by_cases h3 : z = z' <;> simp [part69, part3, e1, run_equalIn_int (P := Try.prog) _ 9998 3 .i64 .i64 _ _ Try.underlying3, Result.andThen, h1, h2, h3]
theorem check3 (w : World) (em : Bool) (d : Nat) (z : Int) : (Instr.checkKey em (d + 1) 3 (.int .i64 z)).run Try.prog w = .ok () w := run_checkKey Try.underlying3 (show IsKey (.int .i64) (.int .i64 z) from rfl) em d
theorem check9 (w : World) (em : Bool) (d : Nat) (z : ByteArray) : (Instr.checkKey em (d + 1) 9 (.string z)).run Try.prog w = .ok () w := run_checkKey Try.underlying9 (show IsKey .string (.string z) from trivial) em d
theorem check69 (w : World) (em : Bool) (d : Nat) (a : ByteArray) (x : Int) : (Instr.checkKey em (d + 2) 69 (.agg #[.string a, .int .i64 x])).run Try.prog w = .ok () w := by
  unfold Instr.checkKey
  simp only [Sem.run_bind, run_underlying fields69, Result.andThen]
  rw [← Array.forIn_toList]
  have hl := list69
  generalize (Try.prog.fieldsOf 69).toList = fs at hl
  obtain ⟨f1, f2, rfl, hf1, hf2⟩ := two hl
  simp only [Prod.mk.injEq] at hf1 hf2
  obtain ⟨n1, t1, o1⟩ := hf1
  obtain ⟨n2, t2, o2⟩ := hf2
  simp [List.forIn_cons, n1, t1, o1, n2, t2, o2, part3, part9, check3, check9, Result.andThen]
theorem check81 (w : World) (em : Bool) (d : Nat) (a x : Int) : (Instr.checkKey em (d + 2) 81 (.agg #[.int .i64 a, .int .i64 x])).run Try.prog w = .ok () w := by
  unfold Instr.checkKey
  simp only [Sem.run_bind, run_underlying fields81, Result.andThen]
  rw [← Array.forIn_toList]
  have hl := list81
  generalize (Try.prog.fieldsOf 81).toList = fs at hl
  obtain ⟨f1, f2, rfl, hf1, hf2⟩ := two hl
  simp only [Prod.mk.injEq] at hf1 hf2
  obtain ⟨n1, t1, o1⟩ := hf1
  obtain ⟨n2, t2, o2⟩ := hf2
  simp [List.forIn_cons, n1, t1, o1, n2, t2, o2, part3, check3, Result.andThen]
theorem checkP (w : World) (em : Bool) (p : PK) : (Instr.checkKey em 10000 69 (mkP p)).run Try.prog w = .ok () w := check69 w em 9998 _ _
theorem checkS (w : World) (em : Bool) (p : SK) : (Instr.checkKey em 10000 83 (mkS p)).run Try.prog w = .ok () w := by
  unfold Instr.checkKey
  simp only [Sem.run_bind, run_underlying fields83, Result.andThen]
  rw [← Array.forIn_toList]
  have hl := list83
  generalize (Try.prog.fieldsOf 83).toList = fs at hl
  obtain ⟨f1, f2, rfl, hf1, hf2⟩ := two hl
  simp only [Prod.mk.injEq] at hf1 hf2
  obtain ⟨n1, t1, o1⟩ := hf1
  obtain ⟨n2, t2, o2⟩ := hf2
  have e1 : ∀ w a x, (Instr.checkKey em 9999 69 (.agg #[.string a, .int .i64 x])).run Try.prog w = .ok () w := fun w a x => check69 w em 9997 a x
  have e2 : ∀ w a x, (Instr.checkKey em 9999 81 (.agg #[.int .i64 a, .int .i64 x])).run Try.prog w = .ok () w := fun w a x => check81 w em 9997 a x
  simp [List.forIn_cons, n1, t1, o1, n2, t2, o2, part69, part81, e1, e2, Result.andThen]
theorem checkT (w : World) (em : Bool) (p : TK) : (Instr.checkKey em 10000 86 (mkT p)).run Try.prog w = .ok () w := by
  unfold Instr.checkKey
  simp only [Sem.run_bind, run_underlying fields86, Result.andThen]
  rw [← Array.forIn_toList]
  have hl := list86
  generalize (Try.prog.fieldsOf 86).toList = fs at hl
  obtain ⟨f1, f2, f3, rfl, hf1, hf2, hf3⟩ := three hl
  simp only [Prod.mk.injEq] at hf1 hf2 hf3
  obtain ⟨n1, t1, o1⟩ := hf1
  obtain ⟨n2, t2, o2⟩ := hf2
  obtain ⟨n3, t3, o3⟩ := hf3
  have e1 : ∀ w a x, (Instr.checkKey em 9999 69 (.agg #[.string a, .int .i64 x])).run Try.prog w = .ok () w := fun w a x => check69 w em 9997 a x
  have e2 : ∀ w x, (Instr.checkKey em 9999 3 (.int .i64 x)).run Try.prog w = .ok () w := fun w x => check3 w em 9998 x
  simp [List.forIn_cons, n1, t1, o1, n2, t2, o2, n3, t3, o3, part69, part3, e1, e2, Result.andThen]
/-- A type of keys that are structs: what it asks of equality. -/
theorem kb_of {α : Type} [DecidableEq α] {t : TypeId} {mk : α → Value} {cs : α → Array Value} (hmk : ∀ a, mk a = .agg (cs a)) (hf : Try.prog.underlying t = some (.struct (Try.prog.fieldsOf t)))
    (inj : ∀ {a b : α}, mk a = mk b → a = b) (check : ∀ (w : World) (em : Bool) (a : α), (Instr.checkKey em 10000 t (mk a)).run Try.prog w = .ok () w)
    (eq : ∀ (w : World) (a b : α), (Op.equal t (mk a) (mk b)).run Try.prog w = .ok (decide (a = b)) w) (same : ∀ a, Instr.sameBits 10000 (mk a) (mk a) = true) : KB t mk where
  inj := inj
  check := check
  find := fun w p es hes => by
    have hnow : ∀ (es : List MapEntry), (∀ e ∈ es, ∃ b, e.key = mk b) → Instr.findNow (.struct (Try.prog.fieldsOf t)) (mk p) es 0 = if es = [] then some none else none := by
      intro es hes
      match es with
      | [] => simp [Instr.findNow]
      | e :: es => simp [Instr.findNow, Instr.sameNow]
    have hask : ∀ (es : List MapEntry) (i : Nat), (∀ e ∈ es, ∃ b, e.key = mk b) →
        ((Instr.findAsking t (mk p) es i).run Try.prog w = .ok none w ∧ ∀ e ∈ es, e.key ≠ mk p) ∨ ∃ j e, (Instr.findAsking t (mk p) es i).run Try.prog w = .ok (some (i + j, e.val)) w ∧ es[j]? = some e ∧ e.key = mk p := by
      intro es
      induction es with
      | nil => intro i _; simp [Instr.findAsking]
      | cons e es ih =>
        intro i h
        obtain ⟨q, hq⟩ := h e (by simp)
        unfold Instr.findAsking
        rw [hq]
        simp only [Sem.run_bind, eq, Result.andThen]
        by_cases hpq : p = q
        · subst hpq
          exact Or.inr ⟨0, e, by simp, rfl, hq⟩
        · simp only [hpq, decide_false, Bool.false_eq_true, if_false]
          rcases ih (i + 1) (fun x hx => h x (by simp [hx])) with ⟨h1, h2⟩ | ⟨j, e', h1, h2, h3⟩
          · refine Or.inl ⟨h1, fun x hx => ?_⟩
            rcases List.mem_cons.1 hx with rfl | hx
            · rw [hq]
              intro c
              exact hpq (inj c).symm
            · exact h2 x hx
          · exact Or.inr ⟨j + 1, e', by rw [h1]; simp; omega, by simpa using h2, h3⟩
    have h0 : (Instr.findKey t (mk p) es).run Try.prog w = if es = [] then .ok none w else (Instr.findAsking t (mk p) es).run Try.prog w := by
      unfold Instr.findKey
      simp only [Sem.run_bind, run_underlying hf, Result.andThen, hnow es hes]
      by_cases he : es = [] <;> simp [he]
    rw [h0]
    by_cases he : es = []
    · subst he; simp
    · rw [if_neg he]
      rcases hask es 0 hes with h | ⟨j, e, h1, h2, h3⟩
      · exact Or.inl h
      · exact Or.inr ⟨j, e, by simpa using h1, h2, h3⟩
  stays := fun w p => by simp [Instr.keyThatStays, same]
theorem kbP : KB 69 mkP := kb_of (cs := fun p => #[.string p.1, .int .i64 p.2]) (fun _ => rfl) fields69 (fun {a b} h => by
  obtain ⟨a1, a2⟩ := a; obtain ⟨b1, b2⟩ := b; simp [mkP] at h; simp [h]) checkP eqP (fun a => by simp [mkP, Instr.sameBits, str_self])
theorem kbS : KB 83 mkS := kb_of (cs := fun p => #[.string p.1, .int .i64 p.2.1, .int .i64 (rnd p.2.2), .int .i64 (rst p.2.2)]) (fun _ => rfl) fields83 (fun {a b} h => by
  obtain ⟨a1, a2, a3⟩ := a; obtain ⟨b1, b2, b3⟩ := b; simp [mkS] at h; simp [h.1, h.2.1, rr_inj h.2.2.1 h.2.2.2]) checkS eqS (fun a => by simp [mkS, Instr.sameBits, str_self])
theorem kbT : KB 86 mkT := kb_of (cs := fun p => #[.string p.1, .int .i64 p.2.1, .int .i64 p.2.2.1, .int .i64 p.2.2.2]) (fun _ => rfl) fields86 (fun {a b} h => by
  obtain ⟨a1, a2, a3, a4⟩ := a; obtain ⟨b1, b2, b3, b4⟩ := b; simp [mkT] at h; simp [h]) checkT eqT (fun a => by simp [mkT, Instr.sameBits, str_self])
end Go.Proofs.Ytnnljdnaipjoiaa
