/- What stays; a map, nil or not; the operations of maps, for the walk. -/
import Derived.Test.YtnnljdnaipjoiaaKey
namespace Go.Proofs.Ytnnljdnaipjoiaa
set_option linter.unusedSimpArgs false
set_option linter.unusedVariables false
open Go.RowKit Go.MapKept
open Go.ChangeMaps (setBlock heap_setBlock_same heap_setBlock_other)
/-- What was there stays, but for these blocks. -/
structure Keeps (F : List Nat) (w w' : World) : Prop where
  os : w'.os = w.os
  tape : w'.tape = w.tape
  output : w'.output = w.output
  size : w.heap.size ≤ w'.heap.size
  block : ∀ k, k < w.heap.size → k ∉ F → w'.heap[k]? = w.heap[k]?
theorem Keeps.refl (F : List Nat) (w : World) : Keeps F w w := ⟨rfl, rfl, rfl, Nat.le_refl _, fun _ _ _ => rfl⟩
theorem Keeps.mono {F G : List Nat} {w w' : World} (h : Keeps F w w') (hs : ∀ x ∈ F, x ∈ G ∨ w.heap.size ≤ x) : Keeps G w w' :=
  ⟨h.os, h.tape, h.output, h.size, fun k hk hn => h.block k hk (fun hf => by rcases hs k hf with a | a; exact hn a; omega)⟩
theorem Keeps.trans {F G : List Nat} {w w1 w2 : World} (h : Keeps F w w1) (k : Keeps G w1 w2) (hs : ∀ x ∈ G, x ∈ F ∨ w.heap.size ≤ x) : Keeps F w w2 :=
  ⟨k.os.trans h.os, k.tape.trans h.tape, k.output.trans h.output, Nat.le_trans h.size k.size, fun x hx hn =>
    (k.block x (Nat.lt_of_lt_of_le hx h.size) (fun hg => by rcases hs x hg with a | a; exact hn a; omega)).trans (h.block x hx hn)⟩
theorem Keeps.of_below {w w' : World} (h : Below w.heap.size w w') (F : List Nat) : Keeps F w w' := ⟨h.os, h.tape, h.output, h.size, fun k hk _ => h.block k hk⟩
theorem Keeps.below {F : List Nat} {w w' : World} (h : Keeps F w w') {B : Nat} (hB : ∀ x ∈ F, B ≤ x) (hs : B ≤ w.heap.size) : Below B w w' :=
  ⟨h.os, h.tape, h.output, h.size, fun k hk => h.block k (by omega) (fun hf => by have := hB k hf; omega)⟩
theorem Keeps.alloc {F : List Nat} {w w' : World} (h : Keeps F w w') (o : Obj) : Keeps F w (w'.alloc o) :=
  h.trans (Keeps.of_below ((Below.refl _ _).alloc (Nat.le_refl _) o) []) (by simp)
theorem Keeps.drew {F : List Nat} {w w' : World} (h : Keeps F w w') : Keeps F w w'.drew := ⟨h.os, h.tape, h.output, h.size, h.block⟩
theorem Keeps.drewN {F : List Nat} {w w' : World} (h : Keeps F w w') (n : Nat) : Keeps F w (w'.drewN n) := ⟨h.os, h.tape, h.output, h.size, h.block⟩
theorem Keeps.setCell {F : List Nat} {w w' : World} (h : Keeps F w w') (a : Addr) (v : Value) (ha : a.block ∈ F ∨ w.heap.size ≤ a.block) : Keeps F w (w'.setCell a v) :=
  ⟨h.os, h.tape, h.output, by simpa [World.setCell] using h.size, fun k hk hn => (heap_setCell_other w' a k v (fun e => by rcases ha with q | q; exact hn (e ▸ q); omega)).trans (h.block k hk hn)⟩
theorem Keeps.setRow {F : List Nat} {w w' : World} (h : Keeps F w w') (g : Nat) (cs : Array Value) (ha : g ∈ F ∨ w.heap.size ≤ g) : Keeps F w (w'.setRow g cs) :=
  ⟨h.os, h.tape, h.output, by simpa using h.size, fun k hk hn => (setRow_other w' g k cs (fun e => by rcases ha with q | q; exact hn (e ▸ q); omega)).trans (h.block k hk hn)⟩
theorem Keeps.grown {F : List Nat} {w w' w2 : World} {row : Option Nat} (h : Keeps F w w') (g : w'.grownBy w2 row) (hr : ∀ x, row = some x → x ∈ F ∨ w.heap.size ≤ x) : Keeps F w w2 :=
  ⟨g.os.trans h.os, g.tape.trans h.tape, g.output.trans h.output, Nat.le_trans h.size g.size, fun k hk hn => (g.block k (Nat.lt_of_lt_of_le hk h.size) (fun e => by rcases hr k e.symm with a | a; exact hn a; omega)).trans (h.block k hk hn)⟩
theorem Keeps.owns {F : List Nat} {w w' : World} {B : Nat} {e : TypeId} {s : Nat} {v : Value} {n : Nat} {xs : List Value} (k : Keeps F w w') (h : w.ownsRow B e s v n xs) (hn : ∀ x, v.ownBlock = some x → x ∉ F) : w'.ownsRow B e s v n xs := by
  refine ⟨h.1, ?_⟩
  rcases h.2 with hn | ⟨g, cap, cur, rfl, hb, hgg, rest⟩
  · exact .inl hn
  · refine .inr ⟨g, cap, cur, rfl, hb, ?_, rest⟩
    rw [k.block g (Array.getElem?_eq_some_iff.1 hgg).1 (hn g rfl)]
    exact hgg

section
variable {α : Type} {mk : α → Value} {f : α → Option Value} {w w' : World} {b n : Nat}
/-- A map, nil or not, that is that function. -/
def MOpt (w : World) (v : Option Nat) (mk : α → Value) (f : α → Option Value) : Prop := (v = none ∧ ∀ a, f a = none) ∨ ∃ b n, v = some b ∧ MapIs w b mk f n
theorem MOpt.keep {v : Option Nat} (h : MOpt w v mk f) (e : ∀ b, v = some b → w'.heap[b]? = w.heap[b]?) : MOpt w' v mk f := by
  rcases h with h | ⟨b, n, rfl, hm⟩
  · exact .inl h
  · exact .inr ⟨b, n, rfl, hm.blk (e b rfl)⟩
theorem MOpt.lt {v : Option Nat} (h : MOpt w v mk f) : ∀ b, v = some b → b < w.heap.size := by
  rcases h with ⟨rfl, _⟩ | ⟨b, n, rfl, hm⟩
  · intro b hb; cases hb
  · intro b' hb; cases hb; exact hm.lt
theorem MOpt.keeps {E : List Nat} {v : Option Nat} (h : MOpt w v mk f) (k : Keeps E w w') (hn : ∀ b, v = some b → b ∉ E) : MOpt w' v mk f := h.keep fun b hb => k.block b (h.lt b hb) (hn b hb)
/-- v, ok := m[k], m nil or not. -/
theorem MOpt.lookOk {v : Option Nat} {k t e : TypeId} (h : MOpt w v mk f) (K : KB k mk) (ht : Try.prog.underlying t = some (.map k e)) {z : Value} (hz : ∀ w, (zeroValue e).run Try.prog w = .ok z w) (a : α) :
    (Instr.lookup t (.map v) (mk a) true).run Try.prog w = .ok (.tuple #[(f a).getD z, .bool (f a).isSome]) w := by
  rcases h with ⟨rfl, h⟩ | ⟨b, n, rfl, h⟩
  · rw [h a]
    rcases K.find w a [] (by simp) with ⟨h1, _⟩ | ⟨j, e0, _, h2, _⟩
    · simp [Instr.lookup, run_underlying ht, K.check w _ a, h1, hz, Result.andThen]
    · simp at h2
  · exact h.lookOk K ht hz a
theorem setBlock_map (w : World) (b : Nat) (es : Array MapEntry) (c : Nat) (h : b < w.heap.size) : w.grownBy (setBlock w b (.map es c)) (some b) ∧ (setBlock w b (.map es c)).heap.size = w.heap.size ∧ (setBlock w b (.map es c)).heap[b]? = some (.map es c) := by
  obtain ⟨o, ho⟩ : ∃ o, w.heap[b]? = some o := ⟨_, Array.getElem?_eq_getElem h⟩
  have hs := MapKept.heap_set (o' := .map es c) ho
  exact ⟨⟨rfl, rfl, rfl, by simp [setBlock], fun k _ hk => hs.2 k (fun e => hk (by rw [e]))⟩, by simp [setBlock], hs.1⟩
section
variable {ops : Array Oper} {rest : List Oper} {o : Oper} {a : Act} {Q : Exit → Act → World → Prop}
theorem wpList_look (hg : o.guard = none) (t : TypeId) (x y : Operand) (hop : o.op = Op.lookup t x y true) {k e : TypeId} (K : KB k mk) (ht : Try.prog.underlying t = some (.map k e)) (z : Value) (hz : ∀ w, (zeroValue e).run Try.prog w = .ok z w)
    (v : Option Nat) (hx : a.eval x = .map v) (h : MOpt w v mk f) (c : α) (hy : a.eval y = mk c) (u : Value) (hu : (f c).getD z = u) (ok : Bool) (hok : (f c).isSome = ok)
    (hK : wpList Try.prog ops Q rest (a.put o.dst (.tuple #[u, .bool ok])) w) : wpList Try.prog ops Q (o :: rest) a w := by
  subst hu; subst hok
  refine wpList_plain hg fun K' hK' => ?_
  have hrun := h.lookOk K ht hz c
  unfold Oper.wp
  simp [execOp, hop, hx, hy, hrun, Result.andThen]
  exact hK' _ _ hK
theorem wpList_put [DecidableEq α] (hg : o.guard = none) (t : TypeId) (x y u : Operand) (hop : o.op = Op.mapUpdate t x y u) {k e : TypeId} (K : KB k mk) (ht : Try.prog.underlying t = some (.map k e))
    (b n : Nat) (hx : a.eval x = .map (some b)) (h : MapIs w b mk f n) (c : α) (hy : a.eval y = mk c) (v : Value) (hu : a.eval u = v)
    (hK : ∀ w', MapIs w' b mk (put f c v) (n + 1) → w.grownBy w' (some b) → w'.heap.size = w.heap.size → wpList Try.prog ops Q rest (a.put o.dst undef) w') : wpList Try.prog ops Q (o :: rest) a w := by
  refine wpList_plain hg fun K' hK' => ?_
  obtain ⟨es, cl, hrun, En, hs⟩ := h.store K ht c v
  obtain ⟨g1, g2, g3⟩ := setBlock_map w b es cl h.lt
  unfold Oper.wp
  simp [execOp, hop, hx, hy, hu, hrun w rfl, Result.andThen]
  exact hK' _ _ (hK _ ⟨es, cl, g3, En, hs⟩ g1 g2)
theorem wpList_rng (hg : o.guard = none) (t : TypeId) (x : Operand) (hop : o.op = Op.range t x) {k e : TypeId} (K : KB k mk) (ht : Try.prog.underlying t = some (.map k e))
    (b n : Nat) (hx : a.eval x = .map (some b)) (h : MapIs w b mk f n)
    (hK : ∀ w', Rng w' b w.heap.size mk f n (fun a => ∃ v, f a = some v) (w'.rangeLeft b w.heap.size) → Below w.heap.size w w' → w'.heap.size = w.heap.size + 1 → wpList Try.prog ops Q rest (a.put o.dst (.pointer (some ⟨w.heap.size, 0, none⟩))) w') : wpList Try.prog ops Q (o :: rest) a w := by
  refine wpList_plain hg fun K' hK' => ?_
  obtain ⟨w', hrun, r1, r2, r3⟩ := h.range K ht
  unfold Oper.wp
  simp [execOp, hop, hx, hrun, Result.andThen]
  exact hK' _ _ (hK w' r1 r2 r3)
theorem wpList_nxt (hg : o.guard = none) (x : Operand) (hop : o.op = Op.next x false) {k : TypeId} (K : KB k mk) (b r n : Nat) (left : α → Prop) (cnt : Nat) (hx : a.eval x = .pointer (some ⟨r, 0, none⟩)) (h : Rng w b r mk f n left cnt)
    (hDone : (∀ c, ¬ left c) → wpList Try.prog ops Q rest (a.put o.dst (.tuple #[.bool false])) w)
    (hMore : ∀ (c : α) (v : Value) (w' : World) (cnt' : Nat), left c → f c = some v → Rng w' b r mk f n (fun x => left x ∧ x ≠ c) cnt' → cnt' < cnt → w.grownBy w' (some r) → w'.heap.size = w.heap.size → (Instr.entry (.pointer (some ⟨r, 0, none⟩))).run Try.prog w' = .ok (.tuple #[mk c, v]) w' → wpList Try.prog ops Q rest (a.put o.dst (.tuple #[.bool true, mk c, v])) w') :
    wpList Try.prog ops Q (o :: rest) a w := by
  refine wpList_plain hg fun K' hK' => ?_
  unfold Oper.wp
  rcases h.next' K with ⟨_, hl, hrun⟩ | ⟨c, v, w', cnt', h1, h2, hrun, h3, h4, _, h6, h7, h8⟩
  · simp [execOp, hop, hx, hrun, Result.andThen]
    exact hK' _ _ (hDone hl)
  · simp [execOp, hop, hx, hrun, Result.andThen]
    exact hK' _ _ (hMore c v w' cnt' h1 h2 h3 h4 h6 h7 h8)
end
end
end Go.Proofs.Ytnnljdnaipjoiaa
