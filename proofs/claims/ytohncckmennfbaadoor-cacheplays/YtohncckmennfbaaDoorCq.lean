/- CachePlays: what stands between two steps. -/
import Derived.Test.YtohncckmennfbaaDoorCl
namespace Go.Proofs.YtohncckmennfbaaDoor
set_option linter.unusedSimpArgs false
set_option linter.unusedVariables false
set_option maxRecDepth 100000
open Go.RowKit Go.MapKept Go.Proofs
open Go.ChangeMaps (setBlock heap_setBlock_same heap_setBlock_other)
def txK (X : Tx) : List Nat := match X with | none => [] | some (hl, _) => hl
structure PlAt (w wr : World) (c dp m sb mm : Nat) (V : Nat → List Nat) (X : Tx) (ss ts : List Int) : Prop where
  bs : BS w.heap.size w [sb, sb + 1, mm] wr c dp m V X
  stl : Tells V ss
  tln : ts.length = 80
  ttl : X.isSome = true → Tells (txV V X) ts
  s : StB wr sb ss
  t : StB wr (sb + 1) ts
  met : MetIs wr mm (txK X)
section
variable {w wr w' : World} {c dp m sb mm : Nat} {V : Nat → List Nat} {X : Tx} {ss ts : List Int}
theorem PlAt.ne (h : PlAt w wr c dp m sb mm V X ss ts) : mm ≠ sb ∧ mm ≠ sb + 1 := by
  obtain ⟨⟨n, es, cl, hb, _⟩, _⟩ := h.met
  refine ⟨fun e => ?_, fun e => ?_⟩
  · have := h.s; unfold StB at this; rw [← e, hb] at this; cases this
  · have := h.t; unfold StB at this; rw [← e, hb] at this; cases this
/-- A call that leaves the boxes. -/
theorem PlAt.go {m' : Nat} {V' : Nat → List Nat} (h : PlAt w wr c dp m sb mm V X ss ts) (h5 : BS w.heap.size w [sb, sb + 1, mm] w' c dp m V X) (hs : Same [sb, sb + 1, mm] wr w') : PlAt w w' c dp m sb mm V X ss ts :=
  ⟨h5, h.stl, h.tln, h.ttl, h.s.blk (hs _ (by simp)), h.t.blk (hs _ (by simp)), h.met.blk (hs _ (by simp))⟩
theorem PlAt.below (h : PlAt w wr c dp m sb mm V X ss ts) (hb : Below wr.heap.size wr w') : PlAt w w' c dp m sb mm V X ss ts := by
  obtain ⟨h1, h2⟩ := h.bs.below hb
  exact h.go (m' := m) (V' := V) h1 h2
/-- A new map takes the place of the old one. -/
theorem PlAt.anew {m' : Nat} {V' : Nat → List Nat} {X' : Tx} {ss' ts' : List Int} (hbs : BS w.heap.size w [sb, sb + 1, mm] w' c dp m' V' X') (h1 : Tells V' ss') (h2 : ts'.length = 80) (h3 : X'.isSome = true → Tells (txV V' X') ts') (hs : StB w' sb ss') (ht : StB w' (sb + 1) ts') (hX : txK X' = []) : PlAt w (w'.alloc (.map #[] 0)) c dp m' sb w'.heap.size V' X' ss' ts' := by
  have hb : Below w'.heap.size w' (w'.alloc (.map #[] 0)) := (Below.refl _ _).alloc (Nat.le_refl _) _
  have hlt : w'.heap.size < (w'.alloc (.map #[] 0)).heap.size := by show _ < (w'.heap.push _).size; simp
  refine ⟨(hbs.box hb (Nat.le_refl _) hlt).ext (fun x hx => ?_), h1, h2, h3, hs.blk (hb.block _ (hbs.ge sb (by simp)).2), ht.blk (hb.block _ (hbs.ge (sb + 1) (by simp)).2), by rw [hX]; exact MetIs.made (MapKept.heap_alloc w' _).1⟩
  simp at hx ⊢
  rcases hx with rfl | rfl | rfl <;> simp
/-- Begin, where none is open. -/
theorem PlAt.begun (h : PlAt w wr c dp m sb mm V none ss ts) (h5 : BS w.heap.size w [sb, sb + 1, mm] w' c dp m V tx0) (hs : Same [sb, sb + 1, mm] wr w') : PlAt w ((w'.setRow (sb + 1) (av ss)).alloc (.map #[] 0)) c dp m sb w'.heap.size V tx0 ss ss := by
  have t5 := h.t.blk (hs (sb + 1) (by simp))
  have s5 := h.s.blk (hs sb (by simp))
  have k : Keeps [sb + 1] w' (w'.setRow (sb + 1) (av ss)) := ⟨rfl, rfl, rfl, by simp, fun x hx hn => setRow_other _ _ _ _ (by simpa using hn)⟩
  have b6 := h5.keeps k (fun x hx => by simp at hx; simp [hx])
  have hz : (w'.setRow (sb + 1) (av ss)).heap.size = w'.heap.size := by simp
  have := PlAt.anew (ts' := ss) b6 h.stl h.stl.1 (fun _ => ⟨h.stl.1, fun k hk => by simpa [txV, tx0] using h.stl.2 k hk⟩) ((setRow_other _ _ _ _ (by omega)).trans s5) (setRow_heap _ _ _ _ _ _ t5) rfl
  rw [hz] at this
  exact this
/-- Commit of one that is open. -/
theorem PlAt.committed {hl : List Nat} {f : Nat → List Nat} (h : PlAt w wr c dp m sb mm V (some (hl, f)) ss ts) (h5 : BS w.heap.size w [sb, sb + 1, mm] w' c dp (m + 395) (txV V (some (hl, f))) none) (hs : Same [sb, sb + 1, mm] wr w') : PlAt w ((w'.setRow sb (av ts)).alloc (.map #[] 0)) c dp (m + 395) sb w'.heap.size (txV V (some (hl, f))) none ts ts := by
  have t5 := h.t.blk (hs (sb + 1) (by simp))
  have s5 := h.s.blk (hs sb (by simp))
  have k : Keeps [sb] w' (w'.setRow sb (av ts)) := ⟨rfl, rfl, rfl, by simp, fun x hx hn => setRow_other _ _ _ _ (by simpa using hn)⟩
  have b6 := h5.keeps k (fun x hx => by simp at hx; simp [hx])
  have hz : (w'.setRow sb (av ts)).heap.size = w'.heap.size := by simp
  have := PlAt.anew (ts' := ts) b6 (h.ttl rfl) h.tln (fun q => by cases q) (setRow_heap _ _ _ _ _ _ s5) ((setRow_other _ _ _ _ (by omega)).trans t5) rfl
  rw [hz] at this
  exact this
/-- Nothing is open any more, the state stays. -/
theorem PlAt.ended {m' : Nat} (h : PlAt w wr c dp m sb mm V X ss ts) (h5 : BS w.heap.size w [sb, sb + 1, mm] w' c dp m V none) (hs : Same [sb, sb + 1, mm] wr w') : PlAt w (w'.alloc (.map #[] 0)) c dp m sb w'.heap.size V none ss ts :=
  PlAt.anew h5 h.stl h.tln (fun q => by cases q) (h.s.blk (hs sb (by simp))) (h.t.blk (hs (sb + 1) (by simp))) rfl
theorem PlAt.step {w5 : World} {K : Nat} {hl : List Nat} {f f' : Nat → List Nat} (h : PlAt w wr c dp m sb mm V (some (hl, f)) ss ts) (hK : K < 80) (v : Int) (hf : f' = updK f (245 + K) (bb v)) (h5 : BS w.heap.size w [sb, sb + 1, mm] w5 c dp m V (some (addK hl (245 + K), f'))) (hs : Same [sb, sb + 1, mm] wr w5) :
    MetIs w5 mm hl ∧ ∃ es cl, (Instr.mapUpdate 30 (.map (some mm)) (.int .i64 (K : Int)) (.int .i64 1)).run Tryd.prog w5 = .ok () (setBlock w5 mm (.map es cl)) ∧ (setBlock w5 mm (.map es cl)).cell? ⟨sb + 1, K, none⟩ = some (.int .i64 (ts.getD K 0)) ∧ (setBlock w5 mm (.map es cl)).frozen? ⟨sb + 1, K, none⟩ = false ∧ PlAt w ((setBlock w5 mm (.map es cl)).setCell ⟨sb + 1, K, none⟩ (.int .i64 v)) c dp m sb mm V (some (addK hl (245 + K), f')) ss (ts.set K v) := by
  subst hf
  obtain ⟨n1, n2⟩ := h.ne
  have m5 : MetIs w5 mm hl := h.met.blk (hs mm (by simp))
  obtain ⟨es, cl, r1, r2⟩ := m5.store K
  have k6 : Keeps [mm] w5 (setBlock w5 mm (.map es cl)) := (Keeps.refl _ _).setBlock _ _ (by simp)
  have h6 := h5.keeps k6 (fun x hx => by simp at hx; simp [hx])
  have e6 : ∀ x, x ≠ mm → (setBlock w5 mm (.map es cl)).heap[x]? = w5.heap[x]? := fun x hx => setBlock_other _ _ _ _ hx
  have t6 : StB (setBlock w5 mm (.map es cl)) (sb + 1) ts := (h.t.blk (hs (sb + 1) (by simp))).blk (e6 _ (Ne.symm n2))
  have s6 : StB (setBlock w5 mm (.map es cl)) sb ss := (h.s.blk (hs sb (by simp))).blk (e6 _ (Ne.symm n1))
  obtain ⟨c1, c2⟩ := t6.cell h.tln K hK
  have k7 : Keeps [sb + 1] (setBlock w5 mm (.map es cl)) ((setBlock w5 mm (.map es cl)).setCell ⟨sb + 1, K, none⟩ (.int .i64 v)) := (Keeps.refl _ _).setCell _ _ (by simp)
  refine ⟨m5, es, cl, r1 w5 rfl, c1, c2, h6.keeps k7 (fun x hx => by simp at hx; simp [hx]), h.stl, by simp [h.tln], fun _ => (h.ttl rfl).write K hK v, s6.blk (heap_setCell_other _ _ _ _ (by show sb ≠ sb + 1; omega)), t6.set K v, (r2 w5 rfl).blk (heap_setCell_other _ _ _ _ (by show mm ≠ sb + 1; exact n2))⟩
end
/-- make([]byte, 511), and the like, beside a cache. -/
theorem BS.write_no {B : Nat} {w1 w : World} {E : List Nat} {c dp m : Nat} {V : Nat → List Nat} (h : BS B w1 E w c dp m V none) (k : Int) (v : Value) : Calls Tryd.prog 13 #[.pointer (some ⟨c, 0, none⟩), .int .i64 k, v] w fun e w' => e = .returned (.int .i64 8) ∧ w' = w := h.cs.write_no k v
theorem BS.write_len {B : Nat} {w1 w : World} {E : List Nat} {c dp m : Nat} {V : Nat → List Nat} {hl : List Nat} {f : Nat → List Nat} (h : BS B w1 E w c dp m V (some (hl, f))) (K : Nat) (hK : K < 80) (a : Option Addr) (len cap : Nat) (hlen : ((len : Int) != 512) = true) : Calls Tryd.prog 13 #[.pointer (some ⟨c, 0, none⟩), .int .i64 (245 + (K : Int)), .slice a len cap] w fun e w' => e = .returned (.int .i64 1) ∧ BS B w1 E w' c dp m V (some (hl, f)) ∧ Same E w w' := by
  have := CS.write_len h.cs (245 + K) (by omega) (by omega) a len cap hlen
  rw [show ((245 + K : Nat) : Int) = 245 + (K : Int) by omega] at this
  refine this.mono ?_
  rintro e w' ⟨rfl, g⟩
  exact ⟨rfl, h.after g⟩
theorem BS.write_far {B : Nat} {w1 w : World} {E : List Nat} {c dp m : Nat} {V : Nat → List Nat} {hl : List Nat} {f : Nat → List Nat} (h : BS B w1 E w c dp m V (some (hl, f))) (k : Int) (hk : 325 ≤ k) (v : Value) : Calls Tryd.prog 13 #[.pointer (some ⟨c, 0, none⟩), .int .i64 k, v] w fun e w' => e = .returned (.int .i64 1) ∧ BS B w1 E w' c dp m V (some (hl, f)) ∧ Same E w w' := by
  refine (CS.write_far h.cs k hk v).mono ?_
  rintro e w' ⟨rfl, g⟩
  exact ⟨rfl, h.after g⟩
end Go.Proofs.YtohncckmennfbaaDoor
