/- A cache in memory, all its methods; the laws' own: fresh, awake. -/
import Derived.Test.YtohncckmennfbaaDoorJy
import Derived.Test.YtohncckmennfbaaDoorSrc
import Derived.Test.YtohncckmennfbaaDoorLf
namespace Go.Proofs.YtohncckmennfbaaDoor
set_option linter.unusedSimpArgs false
set_option linter.unusedVariables false
set_option maxRecDepth 100000
open Go.RowKit Go.MapKept Go.Proofs
open Go.ChangeMaps (setBlock heap_setBlock_same heap_setBlock_other)
/-! A cache in memory; New, Open, Dirty, Begin, Abort. -/
theorem ndLe : ∀ (l m : List Nat), l.Nodup → (∀ x ∈ l, x ∈ m) → l.length ≤ m.length
  | [], m, _, _ => by simp
  | a :: l, m, hn, hs => by
    have ha := hs a (by simp)
    have hn2 := List.nodup_cons.1 hn
    have h1 := ndLe l (m.erase a) hn2.2 (fun x hx => (List.mem_erase_of_ne (fun e => hn2.1 (by rw [← e]; exact hx))).2 (hs x (by simp [hx])))
    rw [List.length_erase_of_mem ha] at h1
    have := List.length_pos_of_mem ha
    simp; omega
/-- What a transaction wrote, as the map says it: homes, and what is in them. -/
def wv (hl : List Nat) (f : Nat → List Nat) (k : Nat) : Option Value := if k ∈ hl then some (bv (f k)) else none
/-- A map of so many entries. -/
theorem wv_count {es : Array MapEntry} {c : Nat} {hl : List Nat} {f : Nat → List Nat} (E : Ent mkI es c (wv hl f)) (hn : hl.Nodup) : es.size = hl.length := by
  have key : ∀ x ∈ es.toList, ∃ k : Nat, x.key = mkI k ∧ k ∈ hl := fun x hx => by
    obtain ⟨k, e1, e2⟩ := E.keys x hx
    refine ⟨k, e1, ?_⟩
    unfold wv at e2
    split at e2
    · assumption
    · cases e2
  have hnd : (es.toList.map fun x => match x.key with | .int _ z => z.toNat | _ => 0).Nodup := by
    refine List.pairwise_map.2 ?_
    refine List.Pairwise.imp_of_mem ?_ ((stamped_iff es c).1 E.stamped).2.2
    intro x y hx hy hne
    obtain ⟨k, e1, _⟩ := key x hx
    obtain ⟨k', e1', _⟩ := key y hy
    rw [e1, e1']
    simp only [mkI, Int.toNat_natCast]
    intro e
    exact hne (by rw [e1, e1', e])
  have h1 := ndLe _ hl hnd (fun k hk => by
    obtain ⟨x, hx, rfl⟩ := List.mem_map.1 hk
    obtain ⟨k, e1, h⟩ := key x hx
    rw [e1]; simpa [mkI] using h)
  have h2 := ndLe hl (es.toList.map fun x => match x.key with | .int _ z => z.toNat | _ => 0) hn (fun k hk => by
    obtain ⟨x, hx, e1, _⟩ := E.all k (bv (f k)) (by simp [wv, hk])
    exact List.mem_map.2 ⟨x, hx, by rw [e1]; simp [mkI]⟩)
  simp at h1 h2
  omega
structure WIs (w : World) (n wb : Nat) (hl : List Nat) (f : Nat → List Nat) : Prop where
  map : ∃ m, MapIs w wb mkI (wv hl f) m
  nd : hl.Nodup
  few : hl.length ≤ 60
  home : ∀ k ∈ hl, 245 ≤ k ∧ k < n
  dat : ∀ k ∈ hl, (f k).length = 512 ∧ ∀ i, (f k).getD i 0 < 256
theorem WIs.blk {w w' : World} {n wb : Nat} {hl : List Nat} {f : Nat → List Nat} (h : WIs w n wb hl f) (e : w'.heap[wb]? = w.heap[wb]?) : WIs w' n wb hl f := by
  obtain ⟨⟨m, h1⟩, h2, h3, h4, h5⟩ := h
  exact ⟨⟨m, h1.blk e⟩, h2, h3, h4, h5⟩
theorem WIs.lt {w : World} {n wb : Nat} {hl : List Nat} {f : Nat → List Nat} (h : WIs w n wb hl f) : wb < w.heap.size := by
  obtain ⟨⟨m, h1⟩, _⟩ := h; exact h1.lt
theorem WIs.obj {w : World} {n wb : Nat} {hl : List Nat} {f : Nat → List Nat} (h : WIs w n wb hl f) : ∃ es c, w.heap[wb]? = some (.map es c) ∧ es.size = hl.length := by
  obtain ⟨⟨m, es, c, h1, E, _⟩, nd, _⟩ := h
  exact ⟨es, c, h1, wv_count E nd⟩
/-- No transaction, or one that wrote these homes. -/
abbrev Tx := Option (List Nat × (Nat → List Nat))
def ccells (j : Nat) (wb : Option Nat) (r : Bool) : Array Value := #[.pointer (some ⟨j, 0, none⟩), .map wb, .bool r]
/-- L: the blocks of the cache itself. -/
def CaIs (w : World) (n c j : Nat) : Tx → List Nat → Prop
  | none, L => L = [c] ∧ ∃ r, w.heap[c]? = some (.cells (ccells j none r) 65 (0, 0))
  | some (hl, f), L => ∃ wb, L = [c, wb] ∧ (∃ r, w.heap[c]? = some (.cells (ccells j (some wb) r) 65 (0, 0))) ∧ WIs w n wb hl f
theorem CaIs.lt {w : World} {n c j : Nat} {X : Tx} {L : List Nat} (h : CaIs w n c j X L) : ∀ x ∈ L, x < w.heap.size := by
  rcases X with _ | ⟨hl, f⟩
  · obtain ⟨rfl, r, h⟩ := h
    intro x hx; simp at hx; subst hx; exact (Array.getElem?_eq_some_iff.1 h).1
  · obtain ⟨wb, rfl, ⟨r, h⟩, h2⟩ := h
    intro x hx; simp at hx
    rcases hx with rfl | rfl
    · exact (Array.getElem?_eq_some_iff.1 h).1
    · exact h2.lt
theorem CaIs.blk {w w' : World} {n c j : Nat} {X : Tx} {L : List Nat} (h : CaIs w n c j X L) (e : ∀ x ∈ L, w'.heap[x]? = w.heap[x]?) : CaIs w' n c j X L := by
  rcases X with _ | ⟨hl, f⟩
  · obtain ⟨rfl, r, h⟩ := h
    exact ⟨rfl, r, (e c (by simp)).trans h⟩
  · obtain ⟨wb, rfl, ⟨r, h⟩, h2⟩ := h
    exact ⟨wb, rfl, ⟨r, (e c (by simp)).trans h⟩, h2.blk (e wb (by simp))⟩
theorem CaIs.mem {w : World} {n c j : Nat} {X : Tx} {L : List Nat} (h : CaIs w n c j X L) : c ∈ L := by
  rcases X with _ | ⟨hl, f⟩
  · obtain ⟨rfl, h⟩ := h; simp
  · obtain ⟨wb, rfl, h, h2⟩ := h; simp
/-- A cache on a journal. -/
def CP (B : Nat) (E : List Nat) (w : World) (c j dp : Nat) (d : Dv) (T : List (List Nat)) (off : Bool) (X : Tx) : Prop :=
  ∃ L, CaIs w d.n c j X L ∧ (∀ x ∈ L, B ≤ x ∧ x ∉ E) ∧ JP B (L ++ E) w j dp d T off
theorem CP.below {B : Nat} {E : List Nat} {w w' : World} {c j dp : Nat} {d : Dv} {T : List (List Nat)} {off : Bool} {X : Tx} (h : CP B E w c j dp d T off X) (hb : Below w.heap.size w w') : CP B E w' c j dp d T off X := by
  obtain ⟨L, h1, h2, h3⟩ := h
  exact ⟨L, h1.blk (fun x hx => hb.block x (h1.lt x hx)), h2, h3.below hb⟩
theorem CP.jp {B : Nat} {E : List Nat} {w : World} {c j dp : Nat} {d : Dv} {T : List (List Nat)} {off : Bool} {X : Tx} (h : CP B E w c j dp d T off X) : JP B E w j dp d T off := by
  obtain ⟨L, h1, h2, h3⟩ := h
  exact h3.ext (fun x hx => .inl (by simp [hx]))
theorem CP.ext {B : Nat} {E E' : List Nat} {w : World} {c j dp : Nat} {d : Dv} {T : List (List Nat)} {off : Bool} {X : Tx} (h : CP B E w c j dp d T off X) (hE : ∀ x ∈ E', x ∈ E ∨ w.heap.size ≤ x) : CP B E' w c j dp d T off X := by
  obtain ⟨L, h1, h2, h3⟩ := h
  refine ⟨L, h1, fun x hx => ⟨(h2 x hx).1, fun q => ?_⟩, h3.ext (fun x hx => ?_)⟩
  · rcases hE x q with a | a
    · exact (h2 x hx).2 a
    · have := h1.lt x hx; omega
  · rcases List.mem_append.1 hx with q | q
    · exact .inl (by simp [q])
    · rcases hE x q with a | a
      · exact .inl (by simp [a])
      · exact .inr a
theorem CP.ok {B : Nat} {E : List Nat} {w : World} {c j dp : Nat} {d : Dv} {T : List (List Nat)} {off : Bool} {X : Tx} (h : CP B E w c j dp d T off X) : d.Ok := h.jp.ok
theorem CP.cells {B : Nat} {E : List Nat} {w : World} {c j dp : Nat} {d : Dv} {T : List (List Nat)} {off : Bool} (h : CP B E w c j dp d T off none) : w.cell? ⟨c, 0, none⟩ = some (.pointer (some ⟨j, 0, none⟩)) ∧ w.cell? ⟨c, 1, none⟩ = some (.map none) := by
  obtain ⟨L, ⟨_, r, h1⟩, _⟩ := h
  refine ⟨?_, ?_⟩ <;> rw [cell_of_row _ _ _ _ _ _ h1] <;> rfl
theorem CP.cellsO {B : Nat} {E : List Nat} {w : World} {c j dp : Nat} {d : Dv} {T : List (List Nat)} {off : Bool} {hl : List Nat} {f : Nat → List Nat} (h : CP B E w c j dp d T off (some (hl, f))) : ∃ wb, w.cell? ⟨c, 0, none⟩ = some (.pointer (some ⟨j, 0, none⟩)) ∧ w.cell? ⟨c, 1, none⟩ = some (.map (some wb)) ∧ WIs w d.n wb hl f := by
  obtain ⟨L, ⟨wb, _, ⟨r, h1⟩, h2⟩, _⟩ := h
  refine ⟨wb, ?_, ?_, h2⟩ <;> rw [cell_of_row _ _ _ _ _ _ h1] <;> rfl
theorem neq0 (w : World) : (binOp .neq 63 (.map none) (.map none)).run Tryd.prog w = .ok (.bool false) w := Go.run_neq_map_nil w 63 _ _ none Tryd.underlying63
theorem neq1 (b : Nat) (w : World) : (binOp .neq 63 (.map (some b)) (.map none)).run Tryd.prog w = .ok (.bool true) w := Go.run_neq_map_nil w 63 _ _ (some b) Tryd.underlying63
theorem len0 (w : World) : (Builtin.len_ #[63] 3 #[.map none]).run Tryd.prog w = .ok (.int .i64 0) w := by simp [Builtin.len_, run_underlying Tryd.underlying63, goInt]
theorem len1 {w : World} {b : Nat} {es : Array MapEntry} {c : Nat} (h : w.heap[b]? = some (.map es c)) : (Builtin.len_ #[63] 3 #[.map (some b)]).run Tryd.prog w = .ok (.int .i64 es.size) w := by simp [Builtin.len_, run_underlying Tryd.underlying63, goInt, MapKept.run_getObj_map h]
/-- New. -/
theorem cnew_any (j : Nat) (w : World) : Calls Tryd.prog 25 #[.pointer (some ⟨j, 0, none⟩)] w fun e w' => e = .returned (.pointer (some ⟨w.heap.size, 0, none⟩)) ∧ w' = w.alloc (.cells (ccells j none false) 65) := by
  go_enter Tryd.func25, Tryd.ntmps25
  go_wp2
  go_ret
  exact ⟨rfl, rfl⟩
theorem cnewF {B : Nat} {E : List Nat} {w1 w : World} {j dp : Nat} {d : Dv} {T : List (List Nat)} {off : Bool} (hF : Fr B E w1 w) (hJ : JP B E w j dp d T off) :
    Calls Tryd.prog 25 #[.pointer (some ⟨j, 0, none⟩)] w fun e w' => ∃ c, e = .returned (.pointer (some ⟨c, 0, none⟩)) ∧ Fr B E w1 w' ∧ CP B E w' c j dp d T off none ∧ Below w.heap.size w w' := by
  refine (cnew_any j w).mono ?_
  rintro e w' ⟨rfl, rfl⟩
  have hb : Below w.heap.size w (w.alloc (.cells (ccells j none false) 65)) := (Below.refl _ _).alloc (Nat.le_refl _) _
  have hB := hF.big
  have hs := hF.size
  refine ⟨_, rfl, hF.below hb, ⟨[w.heap.size], ⟨rfl, false, heap_alloc_new _ _⟩, fun x hx => ?_, (hJ.ext (fun x hx => ?_)).below hb⟩, hb⟩
  · simp at hx; subst hx
    exact ⟨by omega, fun q => by have := hF.ltw _ q; omega⟩
  · simp at hx; rcases hx with rfl | hx
    · exact .inr (Nat.le_refl _)
    · exact .inl hx
/-- Open. -/
theorem copen_none {B : Nat} {E : List Nat} {w : World} {c j dp : Nat} {d : Dv} {T : List (List Nat)} {off : Bool} (h : CP B E w c j dp d T off none) : Calls Tryd.prog 18 #[.pointer (some ⟨c, 0, none⟩)] w fun e w' => e = .returned (.bool false) ∧ w' = w := by
  obtain ⟨c0, c1⟩ := h.cells
  have hq := neq0 w
  go_enter Tryd.func18, Tryd.ntmps18
  go_wp2
  go_ret
  exact ⟨rfl, rfl⟩
theorem copen_some {B : Nat} {E : List Nat} {w : World} {c j dp : Nat} {d : Dv} {T : List (List Nat)} {off : Bool} {hl : List Nat} {f : Nat → List Nat} (h : CP B E w c j dp d T off (some (hl, f))) : Calls Tryd.prog 18 #[.pointer (some ⟨c, 0, none⟩)] w fun e w' => e = .returned (.bool true) ∧ w' = w := by
  obtain ⟨wb, c0, c1, _⟩ := h.cellsO
  have hq := neq1 wb w
  go_enter Tryd.func18, Tryd.ntmps18
  go_wp2
  go_ret
  exact ⟨rfl, rfl⟩
theorem copen_any {B : Nat} {E : List Nat} {w : World} {c j dp : Nat} {d : Dv} {T : List (List Nat)} {off : Bool} {X : Tx} (h : CP B E w c j dp d T off X) : Calls Tryd.prog 18 #[.pointer (some ⟨c, 0, none⟩)] w fun e w' => e = .returned (.bool X.isSome) ∧ w' = w := by
  rcases X with _ | ⟨hl, f⟩
  · exact copen_none h
  · exact copen_some h
theorem copen_nil (w : World) : Calls Tryd.prog 18 #[.pointer none] w fun e w' => e = .returned (.bool false) ∧ w' = w := by
  go_enter Tryd.func18, Tryd.ntmps18
  go_wp2
  go_ret
  exact ⟨rfl, rfl⟩
/-- Dirty. -/
def txn (X : Tx) : Nat := match X with | none => 0 | some (hl, _) => hl.length
theorem cdirty_any {B : Nat} {E : List Nat} {w : World} {c j dp : Nat} {d : Dv} {T : List (List Nat)} {off : Bool} {X : Tx} (h : CP B E w c j dp d T off X) : Calls Tryd.prog 19 #[.pointer (some ⟨c, 0, none⟩)] w fun e w' => e = .returned (.int .i64 (txn X : Int)) ∧ w' = w := by
  rcases X with _ | ⟨hl, f⟩
  · obtain ⟨c0, c1⟩ := h.cells
    have hq := len0 w
    go_enter Tryd.func19, Tryd.ntmps19
    go_wp2
    go_ret
    exact ⟨rfl, rfl⟩
  · obtain ⟨wb, c0, c1, hW⟩ := h.cellsO
    obtain ⟨es, cl, ho, hs⟩ := hW.obj
    have hq := len1 ho
    clear hW h
    show Calls Tryd.prog 19 #[.pointer (some ⟨c, 0, none⟩)] w fun e w' => e = .returned (.int .i64 (hl.length : Int)) ∧ w' = w
    rw [← hs]
    clear hs
    go_enter Tryd.func19, Tryd.ntmps19
    go_wp2
    go_ret
    exact ⟨rfl, rfl⟩
theorem cdirty_nil (w : World) : Calls Tryd.prog 19 #[.pointer none] w fun e w' => e = .returned (.int .i64 0) ∧ w' = w := by
  go_enter Tryd.func19, Tryd.ntmps19
  go_wp2
  go_ret
  exact ⟨rfl, rfl⟩
/-- Begin. -/
theorem cbegin_nil (w : World) : Calls Tryd.prog 12 #[.pointer none] w fun e w' => e = .returned (.int .i64 8) ∧ w' = w := by
  go_enter Tryd.func12, Tryd.ntmps12
  go_wp2
  go_ret
  exact ⟨rfl, rfl⟩
theorem cbegin_some {B : Nat} {E : List Nat} {w : World} {c j dp : Nat} {d : Dv} {T : List (List Nat)} {off : Bool} {hl : List Nat} {f : Nat → List Nat} (h : CP B E w c j dp d T off (some (hl, f))) : Calls Tryd.prog 12 #[.pointer (some ⟨c, 0, none⟩)] w fun e w' => e = .returned (.int .i64 8) ∧ w' = w := by
  obtain ⟨wb, c0, c1, _⟩ := h.cellsO
  go_enter Tryd.func12, Tryd.ntmps12
  go_wp2_with (go_at_call 18; refine (copen_some h).mono ?_; rintro e w1 ⟨rfl, hw⟩; subst w1)
  go_ret
  exact ⟨rfl, rfl⟩
/-- The cell that holds what was written is laid anew. -/
theorem CP.set {B : Nat} {E : List Nat} {w1 w w2 : World} {c j dp : Nat} {d : Dv} {T : List (List Nat)} {off : Bool} {X : Tx} (hF : Fr B E w1 w) (h : CP B E w c j dp d T off X) (hb : Below w.heap.size w w2) (L' : List Nat) (X' : Tx) (wbo : Option Nat)
    (hc : CaIs (w2.setCell ⟨c, 1, none⟩ (.map wbo)) d.n c j X' L') (hL : ∀ x ∈ L', x = c ∨ w.heap.size ≤ x) :
    Fr B E w1 (w2.setCell ⟨c, 1, none⟩ (.map wbo)) ∧ CP B E (w2.setCell ⟨c, 1, none⟩ (.map wbo)) c j dp d T off X' := by
  obtain ⟨L, h1, h2, FP, hJ, h3⟩ := id h
  have hcL := h1.mem
  have k : Keeps [c] w2 (w2.setCell ⟨c, 1, none⟩ (.map wbo)) := (Keeps.refl _ _).setCell _ _ (by simp)
  have hB := hF.big
  have hs := hF.size
  refine ⟨(hF.below hb).keeps k (fun x hx => by simp at hx; subst hx; exact h2 _ hcL), L', hc, fun x hx => ?_, FP, (hJ.below hb).keeps k (fun x hx q => ?_), fun x hx => ⟨(h3 x hx).1, fun q => ?_⟩⟩
  · rcases hL x hx with rfl | q
    · exact h2 _ hcL
    · exact ⟨by omega, fun e => by have := hF.ltw _ e; omega⟩
  · simp at q; subst q
    exact (h3 _ hx).2 (by simp [hcL])
  · rcases List.mem_append.1 q with a | a
    · rcases hL x a with rfl | b
      · exact (h3 _ hx).2 (by simp [hcL])
      · have := hJ.lt x hx; omega
    · exact (h3 x hx).2 (by simp [a])
theorem CP.frozen {B : Nat} {E : List Nat} {w : World} {c j dp : Nat} {d : Dv} {T : List (List Nat)} {off : Bool} {X : Tx} (h : CP B E w c j dp d T off X) : ∃ wb r, w.heap[c]? = some (.cells (ccells j wb r) 65 (0, 0)) := by
  obtain ⟨L, h1, _⟩ := h
  rcases X with _ | ⟨hl, f⟩
  · obtain ⟨_, r, h⟩ := h1; exact ⟨_, r, h⟩
  · obtain ⟨wb, _, ⟨r, h⟩, _⟩ := h1; exact ⟨_, r, h⟩
/-- Whether a block was refused is laid anew. -/
theorem CP.flag {B : Nat} {E : List Nat} {w1 w w2 : World} {c j dp : Nat} {d : Dv} {T : List (List Nat)} {off : Bool} {X : Tx} (hF : Fr B E w1 w) (h : CP B E w c j dp d T off X) (hb : Below w.heap.size w w2) (v : Bool) :
    Fr B E w1 (w2.setCell ⟨c, 2, none⟩ (.bool v)) ∧ CP B E (w2.setCell ⟨c, 2, none⟩ (.bool v)) c j dp d T off X := by
  obtain ⟨L, h1, h2, FP, hJ, h3⟩ := h
  have hcL := h1.mem
  have k : Keeps [c] w2 (w2.setCell ⟨c, 2, none⟩ (.bool v)) := (Keeps.refl _ _).setCell _ _ (by simp)
  refine ⟨(hF.below hb).keeps k (fun x hx => by simp at hx; subst hx; exact h2 _ hcL), L, ?_, h2, FP, (hJ.below hb).keeps k (fun x hx q => ?_), h3⟩
  · rcases X with _ | ⟨hl, f⟩
    · obtain ⟨rfl, r, hc⟩ := h1
      have hlt : c < w.heap.size := (Array.getElem?_eq_some_iff.1 hc).1
      exact ⟨rfl, v, by rw [heap_setCell_same _ c 2 (ccells j none r) 65 _ ((hb.block c hlt).trans hc)]; simp [ccells]⟩
    · obtain ⟨wb, rfl, ⟨r, hc⟩, hW⟩ := h1
      have hlt : c < w.heap.size := (Array.getElem?_eq_some_iff.1 hc).1
      have hne : wb ≠ c := fun e => by
        obtain ⟨es, cl, ho, _⟩ := hW.obj
        rw [e, hc] at ho
        cases ho
      exact ⟨wb, rfl, ⟨v, by rw [heap_setCell_same _ c 2 (ccells j (some wb) r) 65 _ ((hb.block c hlt).trans hc)]; simp [ccells]⟩, hW.blk ((heap_setCell_other _ _ _ _ (by show wb ≠ c; exact hne)).trans (hb.block wb hW.lt))⟩
  · simp at q; subst q
    exact (h3 _ hx).2 (by simp [hcL])
/-- Its cell. -/
theorem CP.cell2 {B : Nat} {E : List Nat} {w : World} {c j dp : Nat} {d : Dv} {T : List (List Nat)} {off : Bool} {X : Tx} (h : CP B E w c j dp d T off X) : ∃ r, w.cell? ⟨c, 2, none⟩ = some (.bool r) ∧ w.frozen? ⟨c, 2, none⟩ = false := by
  obtain ⟨wbo, r, hc⟩ := h.frozen
  exact ⟨r, by rw [cell_of_row _ _ _ _ _ _ hc]; rfl, frozen_of_row _ c 2 _ 65 hc⟩
def tx0 : Tx := some ([], fun _ => zeros)
theorem cbegin_ok {B : Nat} {E : List Nat} {w1 w : World} {c j dp : Nat} {d : Dv} {T : List (List Nat)} {off : Bool} (hF : Fr B E w1 w) (h : CP B E w c j dp d T off none) : Calls Tryd.prog 12 #[.pointer (some ⟨c, 0, none⟩)] w fun e w' => e = .returned (.int .i64 0) ∧ Fr B E w1 w' ∧ CP B E w' c j dp d T off tx0 := by
  obtain ⟨c0, c1⟩ := h.cells
  obtain ⟨wbo, r0, hc⟩ := h.frozen
  have hlt : c < w.heap.size := (Array.getElem?_eq_some_iff.1 hc).1
  have hb : Below w.heap.size w (w.alloc (.map #[] 0)) := (Below.refl _ _).alloc (Nat.le_refl _) _
  have hc2 : (w.alloc (.map #[] 0)).heap[c]? = some (.cells (ccells j wbo r0) 65 (0, 0)) := (hb.block c hlt).trans hc
  have hP := CP.set hF h hb [c, w.heap.size] tx0 (some w.heap.size) ⟨w.heap.size, rfl, ⟨r0, by rw [heap_setCell_same _ c 1 (ccells j wbo r0) 65 _ hc2]; simp [ccells]⟩, ⟨0, #[], 0, (heap_setCell_other _ _ _ _ (by show w.heap.size ≠ c; omega)).trans (MapKept.heap_alloc w _).1, ⟨stamped_empty 0, by simp, fun a v h => by simp [wv] at h⟩, Nat.le_refl _⟩, by simp, by simp, by simp, by simp⟩ (fun x hx => by simp at hx; rcases hx with rfl | rfl; exact .inl rfl; exact .inr (Nat.le_refl _))
  have HP : Hid _ := CP.flag hP.1 hP.2 (Below.refl _ _) false
  clear hP
  have HW : Hid ((((w.alloc (.map #[] 0)).setCell ⟨c, 1, none⟩ (.map (some w.heap.size))).setCell ⟨c, 2, none⟩ (.bool false)) = (((w.setCell ⟨c, 1, none⟩ (.map (some w.heap.size))).setCell ⟨c, 2, none⟩ (.bool false)).alloc (.map #[] 0))) := by
    rw [World.setCell_alloc_past _ _ _ _ hlt, World.setCell_alloc_past _ _ _ _ (by simpa [World.setCell] using hlt)]; exact rfl
  have qf := frozen_of_row _ c 1 _ 65 hc2
  have hmm := @run_makeMap Tryd.prog
  have q1 : (w.alloc (.map #[] 0)).cell? ⟨c, 1, none⟩ = some (.map none) := (hb.cell hlt).trans c1
  have q2 : (w.alloc (.map #[] 0)).cell? ⟨c, 2, none⟩ = some (.bool r0) := by rw [cell_of_row _ _ _ _ _ _ hc2]; rfl
  have qg := frozen_of_row _ c 2 _ 65 hc2
  have q3 : w.cell? ⟨c, 2, none⟩ = some (.bool r0) := by rw [cell_of_row _ _ _ _ _ _ hc]; rfl
  have qh := frozen_of_row _ c 2 _ 65 hc
  go_enter Tryd.func12, Tryd.ntmps12
  go_wp2_with (go_at_call 18; refine (copen_none h).mono ?_; rintro e w1 ⟨rfl, hw⟩; subst w1)
  go_ret
  exact ⟨rfl, by rw [← HW.out]; exact HP.out⟩
/-- Abort. -/
theorem cabort_nil (w : World) : Calls Tryd.prog 17 #[.pointer none] w fun e w' => e = .returned (.int .i64 8) ∧ w' = w := by
  go_enter Tryd.func17, Tryd.ntmps17
  go_wp2_with (go_at_call 18; refine (copen_nil _).mono ?_; rintro e w1 ⟨rfl, hw⟩; subst w1)
  go_ret
  exact ⟨rfl, rfl⟩
theorem cabort_none {B : Nat} {E : List Nat} {w : World} {c j dp : Nat} {d : Dv} {T : List (List Nat)} {off : Bool} (h : CP B E w c j dp d T off none) : Calls Tryd.prog 17 #[.pointer (some ⟨c, 0, none⟩)] w fun e w' => e = .returned (.int .i64 8) ∧ w' = w := by
  go_enter Tryd.func17, Tryd.ntmps17
  go_wp2_with (go_at_call 18; refine (copen_none h).mono ?_; rintro e w1 ⟨rfl, hw⟩; subst w1)
  go_ret
  exact ⟨rfl, rfl⟩
theorem CP.close {B : Nat} {E : List Nat} {w1 w w2 : World} {c j dp : Nat} {d : Dv} {T : List (List Nat)} {off : Bool} {X : Tx} (hF : Fr B E w1 w) (h : CP B E w c j dp d T off X) (hb : Below w.heap.size w w2) : Fr B E w1 (w2.setCell ⟨c, 1, none⟩ (.map none)) ∧ CP B E (w2.setCell ⟨c, 1, none⟩ (.map none)) c j dp d T off none := by
  obtain ⟨wbo, r0, hc⟩ := h.frozen
  have hlt : c < w.heap.size := (Array.getElem?_eq_some_iff.1 hc).1
  exact CP.set hF h hb [c] none none ⟨rfl, r0, by rw [heap_setCell_same _ c 1 (ccells j wbo r0) 65 _ ((hb.block c hlt).trans hc)]; simp [ccells]⟩ (fun x hx => by simp at hx; exact .inl hx)
theorem cabort_ok {B : Nat} {E : List Nat} {w1 w : World} {c j dp : Nat} {d : Dv} {T : List (List Nat)} {off : Bool} {hl : List Nat} {f : Nat → List Nat} (hF : Fr B E w1 w) (h : CP B E w c j dp d T off (some (hl, f))) : Calls Tryd.prog 17 #[.pointer (some ⟨c, 0, none⟩)] w fun e w' => e = .returned (.int .i64 0) ∧ Fr B E w1 w' ∧ CP B E w' c j dp d T off none := by
  obtain ⟨wbo, r0, hc⟩ := h.frozen
  have HP : Hid _ := CP.close hF h (Below.refl _ w)
  obtain ⟨wb, c0, c1, _⟩ := h.cellsO
  have qf := frozen_of_row _ c 1 _ 65 hc
  go_enter Tryd.func17, Tryd.ntmps17
  go_wp2_with (go_at_call 18; refine (copen_some h).mono ?_; rintro e w1 ⟨rfl, hw⟩; subst w1)
  go_ret
  exact ⟨rfl, HP.out⟩
/-! Read, home, full, Write of a cache. -/
theorem zero68 : (Tryd.prog.info? 68).map (fun i => (i.zero, i.size)) = some (some (bv zeros), 512) := by kernel_rfl
theorem size68 (c : List Nat) (h : c.length = 512) : (Tryd.prog.info? 68).map (·.size) = some (cv c).toArray.size := by
  rw [(zero_of_info zero68).2]; simp [cv_length, h]
theorem WIs.look {w : World} {n wb : Nat} {hl : List Nat} {f : Nat → List Nat} (h : WIs w n wb hl f) (k : Nat) : ∀ w', w'.heap[wb]? = w.heap[wb]? → (Instr.lookup 63 (.map (some wb)) (.int .i64 (k : Int)) true).run Tryd.prog w' = .ok (.tuple #[bv (if k ∈ hl then f k else zeros), .bool (decide (k ∈ hl))]) w' := by
  intro w' e
  obtain ⟨⟨m, hm⟩, _⟩ := h
  have := (hm.blk e).lookOk kbI Tryd.underlying63 (zero_of_info zero68).1 k
  by_cases hk : k ∈ hl
  · simpa [wv, hk, mkI] using this
  · simpa [wv, hk, mkI] using this
theorem WIs.look1 {w : World} {n wb : Nat} {hl : List Nat} {f : Nat → List Nat} (h : WIs w n wb hl f) (k : Nat) (hk : k ∈ hl) : ∀ w', w'.heap[wb]? = w.heap[wb]? → (Instr.lookup 63 (.map (some wb)) (.int .i64 (k : Int)) false).run Tryd.prog w' = .ok (bv (f k)) w' := by
  obtain ⟨⟨m, hm⟩, _⟩ := h
  exact hm.look' kbI Tryd.underlying63 (zero_of_info zero68).1 k _ (by simp [wv, hk])
theorem look_nil (w : World) (k : Nat) : (Instr.lookup 63 (.map none) (.int .i64 (k : Int)) true).run Tryd.prog w = .ok (.tuple #[bv zeros, .bool false]) w := by
  have hc := kbI.check w true k
  have hc2 := kbI.check w false k
  unfold mkI at hc hc2
  rcases kbI.find w k [] (by simp) with ⟨h1, _⟩ | ⟨j, e, _, h2, _⟩
  · unfold mkI at h1
    simp [Instr.lookup, run_underlying Tryd.underlying63, (zero_of_info zero68).1, hc, hc2, h1, Result.andThen]
  · simp at h2
/-- What a cache tells. -/
def txV (V : Nat → List Nat) (X : Tx) (k : Nat) : List Nat := match X with | none => V k | some (hl, f) => if k ∈ hl then f k else V k
theorem rest_read {d : Dv} {T : List (List Nat)} {s : Nat → List Nat} (h : Rest d T s) {k : Nat} (h1 : 245 ≤ k) (h2 : k < d.n) : d.cur (find T k) = s k := by rw [cur_none (h.none _)]; exact (h.ph.view k h1 h2).1
/-- Read of a journal at rest. -/
theorem readJ {B : Nat} {E : List Nat} {w : World} {j dp : Nat} {d : Dv} {T : List (List Nat)} {off : Bool} {s : Nat → List Nat} (hJ : JP B E w j dp d T off) (hR : Rest d T s) (k : Nat) (h1 : 245 ≤ k) (h2 : k < d.n) :
    Calls Tryd.prog 34 #[.pointer (some ⟨j, 0, none⟩), .int .i64 (k : Int)] w fun e w' => ∃ g, e = .returned (.tuple #[.slice (some ⟨g, 0, none⟩) 512 512, .int .i64 0]) ∧ Full w' g 83 (s k) ∧ w.heap.size ≤ g ∧ Below w.heap.size w w' := by
  obtain ⟨FP, hJo, _⟩ := hJ
  have := jread_ok hJo k ⟨h1, h2⟩ (find_lt hR.ph.good hR.ph.n246 h1 h2).1
  rw [rest_read hR h1 h2] at this
  exact this
theorem Rest.slt {d : Dv} {T : List (List Nat)} {s : Nat → List Nat} (hR : Rest d T s) (ho : d.Ok) {k : Nat} (h1 : 245 ≤ k) (h2 : k < d.n) : (s k).length = 512 ∧ ∀ i, (s k).getD i 0 < 256 := by
  rw [← rest_read hR h1 h2]; exact ho.cur _
theorem cwrote_any {B : Nat} {E : List Nat} {w : World} {c j dp : Nat} {d : Dv} {T : List (List Nat)} {off : Bool} {hl : List Nat} {f : Nat → List Nat} (h : CP B E w c j dp d T off (some (hl, f))) (k : Nat) :
    Calls Tryd.prog 33 #[.pointer (some ⟨c, 0, none⟩), .int .i64 (k : Int)] w fun e w' => e = .returned (.bool (decide (k ∈ hl))) ∧ Below w.heap.size w w' := by
  obtain ⟨wb, c0, c1, hW⟩ := h.cellsO
  have hL1 := hW.look k w rfl
  have hz := (zero_of_info zero68).1
  have hYl : (if k ∈ hl then f k else zeros).length = 512 := by
    split
    · rename_i q; exact (hW.dat k q).1
    · exact zeros_len
  unfold bv at hz hL1
  generalize (if k ∈ hl then f k else zeros) = Y at hL1 hYl
  have hs := size68 Y hYl
  have HL : Hid (Y.length = 512) := hYl
  have g0 := heap_alloc_new w (.cells (cv zeros).toArray 68)
  have b0 : Below w.heap.size w (w.alloc (.cells (cv zeros).toArray 68)) := (Below.refl _ _).alloc (Nat.le_refl _) _
  have b1 : Below w.heap.size w ((w.alloc (.cells (cv zeros).toArray 68)).setRow w.heap.size (cv Y).toArray) := b0.trans ⟨rfl, rfl, rfl, by simp, fun x hx => setRow_other _ _ _ _ (by omega)⟩
  have HB1 : Hid _ := b1
  generalize decide (k ∈ hl) = bk at hL1 ⊢
  clear hW h hYl b1 b0
  go_enter Tryd.func33, Tryd.ntmps33
  go_wp2_with (refine wpList_store_row rfl 68 _ _ rfl w.heap.size (cv Y).toArray rfl rfl 68 (cv zeros).toArray g0 hs (by rw [List.size_toArray, List.size_toArray, cv_length, cv_length, zeros_len, HL.out]) (cv_all _) ?_)
  go_ret
  exact ⟨rfl, HB1.out⟩
theorem cwrote_none {B : Nat} {E : List Nat} {w : World} {c j dp : Nat} {d : Dv} {T : List (List Nat)} {off : Bool} (h : CP B E w c j dp d T off none) (k : Nat) :
    Calls Tryd.prog 33 #[.pointer (some ⟨c, 0, none⟩), .int .i64 (k : Int)] w fun e w' => e = .returned (.bool false) ∧ Below w.heap.size w w' := by
  obtain ⟨c0, c1⟩ := h.cells
  have hL1 := look_nil w k
  have hz := (zero_of_info zero68).1
  unfold bv at hz hL1
  have hs := size68 zeros zeros_len
  have g0 := heap_alloc_new w (.cells (cv zeros).toArray 68)
  have b0 : Below w.heap.size w (w.alloc (.cells (cv zeros).toArray 68)) := (Below.refl _ _).alloc (Nat.le_refl _) _
  have b1 : Below w.heap.size w ((w.alloc (.cells (cv zeros).toArray 68)).setRow w.heap.size (cv zeros).toArray) := b0.trans ⟨rfl, rfl, rfl, by simp, fun x hx => setRow_other _ _ _ _ (by omega)⟩
  have HB1 : Hid _ := b1
  clear h b1 b0
  go_enter Tryd.func33, Tryd.ntmps33
  go_wp2_with (refine wpList_store_row rfl 68 _ _ rfl w.heap.size (cv zeros).toArray rfl rfl 68 (cv zeros).toArray g0 hs rfl (cv_all _) ?_)
  go_ret
  exact ⟨rfl, HB1.out⟩
set_option maxRecDepth 100000 in
theorem cread_in {B : Nat} {E : List Nat} {w : World} {c j dp : Nat} {d : Dv} {T : List (List Nat)} {off : Bool} {hl : List Nat} {f : Nat → List Nat} (h : CP B E w c j dp d T off (some (hl, f))) (k : Nat) (hk : k ∈ hl) :
    Calls Tryd.prog 21 #[.pointer (some ⟨c, 0, none⟩), .int .i64 (k : Int)] w fun e w' => ∃ g, e = .returned (.tuple #[.slice (some ⟨g, 0, none⟩) 512 512, .int .i64 0]) ∧ Full w' g 68 (f k) ∧ w.heap.size ≤ g ∧ Below w.heap.size w w' := by
  obtain ⟨wb, c0, c1, hW⟩ := h.cellsO
  have hw := cwrote_any h k
  rw [decide_eq_true hk] at hw
  have HWr : Hid _ := hw
  have HF : Hid (∀ w', Below w.heap.size w w' → w'.cell? ⟨c, 1, none⟩ = some (.map (some wb)) ∧ (Instr.lookup 63 (.map (some wb)) (.int .i64 (k : Int)) false).run Tryd.prog w' = .ok (.agg (cv (f k)).toArray) w' ∧ (Instr.lookup 63 (.map (some wb)) (.int .i64 (k : Int)) false).run Tryd.prog (w'.alloc (.cells (cv zeros).toArray 68)) = .ok (.agg (cv (f k)).toArray) (w'.alloc (.cells (cv zeros).toArray 68))) := fun w' hb => by
    have hlt := hW.lt
    have e1 := hb.block _ hlt
    exact ⟨(hb.cell (World.block_lt_of_cell? _ _ c1)).trans c1, hW.look1 k hk w' e1, hW.look1 k hk _ ((Below.heap_alloc _ _ _ (Nat.lt_of_lt_of_le hlt hb.size)).trans e1)⟩
  have hz := (zero_of_info zero68).1
  unfold bv at hz
  have hl' := (hW.dat k hk).1
  have hs := size68 (f k) hl'
  have HL : Hid ((f k).length = 512) := hl'
  clear hl' hW hk h hw
  generalize f k = q at *
  go_enter Tryd.func21, Tryd.ntmps21
  go_wp2_with (first
    | (go_at_call 33; refine Calls.mono HWr.out ?_; rintro e w1 ⟨rfl, hb1⟩; obtain ⟨q1, q2, q3⟩ := HF.out w1 hb1; have g0 := heap_alloc_new w1 (.cells (cv zeros).toArray 68))
    | (have _t := g0; refine wpList_store_row rfl 68 _ _ rfl w1.heap.size (cv q).toArray rfl rfl 68 (cv zeros).toArray g0 hs (by rw [List.size_toArray, List.size_toArray, cv_length, cv_length, zeros_len, HL.out]) (cv_all _) ?_; clear _t))
  go_ret2
  refine ⟨w1.heap.size, rfl, setRow_heap _ _ _ _ _ _ g0, hb1.size, hb1.trans (Below.mono ?_ hb1.size)⟩
  have h1 : Below w1.heap.size w1 (w1.alloc (.cells (cv zeros).toArray 68)) := (Below.refl _ _).alloc (Nat.le_refl _) _
  exact h1.trans ⟨rfl, rfl, rfl, by simp, fun x hx => setRow_other _ _ _ _ (by omega)⟩
set_option maxRecDepth 100000 in
theorem cread_over {B : Nat} {E : List Nat} {w : World} {c j dp : Nat} {d : Dv} {T : List (List Nat)} {off : Bool} {V : Nat → List Nat} {X : Tx} (h : CP B E w c j dp d T off X) (hR : Rest d T V) (k : Nat) (h1 : 245 ≤ k) (h2 : k < d.n) (c0 : w.cell? ⟨c, 0, none⟩ = some (.pointer (some ⟨j, 0, none⟩)))
    (hw : Calls Tryd.prog 33 #[.pointer (some ⟨c, 0, none⟩), .int .i64 (k : Int)] w fun e w' => e = .returned (.bool false) ∧ Below w.heap.size w w') :
    Calls Tryd.prog 21 #[.pointer (some ⟨c, 0, none⟩), .int .i64 (k : Int)] w fun e w' => ∃ g, e = .returned (.tuple #[.slice (some ⟨g, 0, none⟩) 512 512, .int .i64 0]) ∧ Full w' g 83 (V k) ∧ w.heap.size ≤ g ∧ Below w.heap.size w w' := by
  have HWr : Hid _ := hw
  have HRD : Hid (∀ w', Below w.heap.size w w' → Calls Tryd.prog 34 #[.pointer (some ⟨j, 0, none⟩), .int .i64 (k : Int)] w' fun e w'' => ∃ g, e = .returned (.tuple #[.slice (some ⟨g, 0, none⟩) 512 512, .int .i64 0]) ∧ Full w'' g 83 (V k) ∧ w'.heap.size ≤ g ∧ Below w'.heap.size w' w'') := fun w' hb => readJ (h.jp.below hb) hR k h1 h2
  have hz := (zero_of_info zero68).1
  unfold bv at hz
  clear h hR hw
  go_enter Tryd.func21, Tryd.ntmps21
  go_wp2_with (first
    | (go_at_call 33; refine Calls.mono HWr.out ?_; rintro e w1 ⟨rfl, hb1⟩; have q1 := (hb1.cell (World.block_lt_of_cell? _ _ c0)).trans c0)
    | (go_at_call 34; refine Calls.mono (HRD.out w1 hb1) ?_; rintro e w3 ⟨g3, rfl, hg3, hge3, hb3⟩))
  go_ret2
  have hz1 := hb1.size
  exact ⟨g3, rfl, hg3, by omega, hb1.trans (hb3.mono hz1)⟩
theorem cread_out {B : Nat} {E : List Nat} {w : World} {c j dp : Nat} {d : Dv} {T : List (List Nat)} {off : Bool} {V : Nat → List Nat} {hl : List Nat} {f : Nat → List Nat} (h : CP B E w c j dp d T off (some (hl, f))) (hR : Rest d T V) (k : Nat) (hk : k ∉ hl) (h1 : 245 ≤ k) (h2 : k < d.n) :
    Calls Tryd.prog 21 #[.pointer (some ⟨c, 0, none⟩), .int .i64 (k : Int)] w fun e w' => ∃ g, e = .returned (.tuple #[.slice (some ⟨g, 0, none⟩) 512 512, .int .i64 0]) ∧ Full w' g 83 (V k) ∧ w.heap.size ≤ g ∧ Below w.heap.size w w' := by
  obtain ⟨wb, c0, c1, hW⟩ := h.cellsO
  have hw := cwrote_any h k
  rw [decide_eq_false hk] at hw
  exact cread_over h hR k h1 h2 c0 hw
theorem cread_none {B : Nat} {E : List Nat} {w : World} {c j dp : Nat} {d : Dv} {T : List (List Nat)} {off : Bool} {V : Nat → List Nat} (h : CP B E w c j dp d T off none) (hR : Rest d T V) (k : Nat) (h1 : 245 ≤ k) (h2 : k < d.n) :
    Calls Tryd.prog 21 #[.pointer (some ⟨c, 0, none⟩), .int .i64 (k : Int)] w fun e w' => ∃ g, e = .returned (.tuple #[.slice (some ⟨g, 0, none⟩) 512 512, .int .i64 0]) ∧ Full w' g 83 (V k) ∧ w.heap.size ≤ g ∧ Below w.heap.size w w' := by
  exact cread_over h hR k h1 h2 h.cells.1 (cwrote_none h k)
/-- Read of a home. -/
theorem cread_any {B : Nat} {E : List Nat} {w : World} {c j dp : Nat} {d : Dv} {T : List (List Nat)} {off : Bool} {V : Nat → List Nat} {X : Tx} (h : CP B E w c j dp d T off X) (hR : Rest d T V) (k : Nat) (h1 : 245 ≤ k) (h2 : k < d.n) :
    Calls Tryd.prog 21 #[.pointer (some ⟨c, 0, none⟩), .int .i64 (k : Int)] w fun e w' => ∃ g ty, e = .returned (.tuple #[.slice (some ⟨g, 0, none⟩) 512 512, .int .i64 0]) ∧ Full w' g ty (txV V X k) ∧ w.heap.size ≤ g ∧ Below w.heap.size w w' := by
  rcases X with _ | ⟨hl, f⟩
  · exact (cread_none h hR k h1 h2).mono fun e w' ⟨g, a, b, q⟩ => ⟨g, 83, a, b, q⟩
  · by_cases hk : k ∈ hl
    · have e1 : txV V (some (hl, f)) k = f k := by simp [txV, hk]
      rw [e1]
      exact (cread_in h k hk).mono fun e w' ⟨g, a, b, q⟩ => ⟨g, 68, a, b, q⟩
    · have e1 : txV V (some (hl, f)) k = V k := by simp [txV, hk]
      rw [e1]
      exact (cread_out h hR k hk h1 h2).mono fun e w' ⟨g, a, b, q⟩ => ⟨g, 83, a, b, q⟩
theorem cread_nil (k : Int) (w : World) : Calls Tryd.prog 21 #[.pointer none, .int .i64 k] w fun e w' => e = .returned (.tuple #[.slice none 0 0, .int .i64 1]) ∧ Below w.heap.size w w' := by
  have hz := (zero_of_info zero68).1
  unfold bv at hz
  go_enter Tryd.func21, Tryd.ntmps21
  go_wp2
  go_ret2
  exact ⟨rfl, (Below.refl _ _)⟩
/-! home, full, Write of a cache. -/
theorem chome_yes {B : Nat} {E : List Nat} {w : World} {c j dp : Nat} {d : Dv} {T : List (List Nat)} {off : Bool} {V : Nat → List Nat} {hl : List Nat} {f : Nat → List Nat} (h : CP B E w c j dp d T off (some (hl, f))) (hR : Rest d T V) (k : Nat) (h1 : 245 ≤ k) (h2 : k < d.n) :
    Calls Tryd.prog 29 #[.pointer (some ⟨c, 0, none⟩), .int .i64 (k : Int)] w fun e w' => e = .returned (.bool true) ∧ Below w.heap.size w w' := by
  obtain ⟨wb, c0, c1, hW⟩ := h.cellsO
  have HRD : Hid _ := readJ h.jp hR k h1 h2
  clear hW h hR
  go_enter Tryd.func29, Tryd.ntmps29
  go_wp2_with (go_at_call 34; refine Calls.mono HRD.out ?_; rintro e w3 ⟨g3, rfl, hg3, hge3, hb3⟩)
  go_ret
  exact ⟨rfl, hb3⟩
theorem chome_no {B : Nat} {E : List Nat} {w : World} {c j dp : Nat} {d : Dv} {T : List (List Nat)} {off : Bool} {hl : List Nat} {f : Nat → List Nat} (h : CP B E w c j dp d T off (some (hl, f))) (k : Int) (hk : hasJ d.n k = false) :
    Calls Tryd.prog 29 #[.pointer (some ⟨c, 0, none⟩), .int .i64 k] w fun e w' => e = .returned (.bool false) ∧ Below w.heap.size w w' := by
  obtain ⟨wb, c0, c1, hW⟩ := h.cellsO
  obtain ⟨FP, hJo, _⟩ := h.jp
  have HRD : Hid _ := jread_bad hJo k hk
  clear hW h hJo
  go_enter Tryd.func29, Tryd.ntmps29
  go_wp2_with (go_at_call 34; refine Calls.mono HRD.out ?_; rintro e w3 ⟨rfl, hw⟩; subst w3)
  go_ret
  exact ⟨rfl, Below.refl _ _⟩
def fullB (hl : List Nat) (k : Nat) : Bool := decide (k ∉ hl ∧ hl.length = 60)
theorem cfull_any {B : Nat} {E : List Nat} {w : World} {c j dp : Nat} {d : Dv} {T : List (List Nat)} {off : Bool} {hl : List Nat} {f : Nat → List Nat} (h : CP B E w c j dp d T off (some (hl, f))) (k : Nat) :
    Calls Tryd.prog 30 #[.pointer (some ⟨c, 0, none⟩), .int .i64 (k : Int)] w fun e w' => e = .returned (.bool (fullB hl k)) ∧ Below w.heap.size w w' := by
  have HW : Hid _ := cwrote_any h k
  have HC : Hid (∀ w1, Below w.heap.size w w1 → ∃ wb es cl, w1.cell? ⟨c, 1, none⟩ = some (.map (some wb)) ∧ w1.heap[wb]? = some (.map es cl) ∧ es.size = hl.length) := fun w1 hb => by
    obtain ⟨wb, c0, c1, hW⟩ := (h.below hb).cellsO
    obtain ⟨es, cl, ho, hsz⟩ := hW.obj
    exact ⟨wb, es, cl, c1, ho, hsz⟩
  have HB : Hid (fullB hl k = (!decide (k ∈ hl) && decide (hl.length = 60))) := by show _ = _; simp [fullB]
  rw [HB.out]
  clear h HB
  by_cases hk : k ∈ hl
  · have hkd : decide (k ∈ hl) = true := decide_eq_true hk
    rw [hkd]
    clear hk
    go_enter Tryd.func30, Tryd.ntmps30
    go_wp2_with (go_at_call 33; refine Calls.mono HW.out ?_; rintro e w1 ⟨rfl, hb1⟩; rw [hkd])
    go_ret
    exact ⟨rfl, hb1⟩
  · have hkd : decide (k ∈ hl) = false := decide_eq_false hk
    rw [hkd]
    clear hk
    by_cases h6 : hl.length = 60
    · rw [decide_eq_true h6]
      have H6 : Hid (hl.length = 60) := h6
      clear h6
      go_enter Tryd.func30, Tryd.ntmps30
      go_wp2_with (go_at_call 33; refine Calls.mono HW.out ?_; rintro e w1 ⟨rfl, hb1⟩; rw [hkd]; obtain ⟨wb, es, cl, q1, q2, q3⟩ := HC.out w1 hb1; have hq := len1 q2; have e6 : ((es.size : Int) == 60) = true := by rw [q3, H6.out]; rfl
                   clear q3)
      go_ret
      exact ⟨rfl, hb1⟩
    · rw [decide_eq_false h6]
      have H6 : Hid (hl.length ≠ 60) := h6
      clear h6
      go_enter Tryd.func30, Tryd.ntmps30
      go_wp2_with (go_at_call 33; refine Calls.mono HW.out ?_; rintro e w1 ⟨rfl, hb1⟩; rw [hkd]; obtain ⟨wb, es, cl, q1, q2, q3⟩ := HC.out w1 hb1; have hq := len1 q2; have e6 : ((es.size : Int) == 60) = false := by rw [q3, beq_eq_false_iff_ne]; intro q; exact H6.out (by omega)
                   clear q3)
      go_ret
      exact ⟨rfl, hb1⟩
/-- Write. -/
theorem cwrite_nil (k : Int) (v : Value) (w : World) : Calls Tryd.prog 13 #[.pointer none, .int .i64 k, v] w fun e w' => e = .returned (.int .i64 8) ∧ w' = w := by
  go_enter Tryd.func13, Tryd.ntmps13
  go_wp2_with (go_at_call 18; refine (copen_nil _).mono ?_; rintro e w1 ⟨rfl, hw⟩; subst w1)
  go_ret
  exact ⟨rfl, rfl⟩
theorem cwrite_none {B : Nat} {E : List Nat} {w : World} {c j dp : Nat} {d : Dv} {T : List (List Nat)} {off : Bool} (h : CP B E w c j dp d T off none) (k : Int) (v : Value) : Calls Tryd.prog 13 #[.pointer (some ⟨c, 0, none⟩), .int .i64 k, v] w fun e w' => e = .returned (.int .i64 8) ∧ w' = w := by
  go_enter Tryd.func13, Tryd.ntmps13
  go_wp2_with (go_at_call 18; refine (copen_none h).mono ?_; rintro e w1 ⟨rfl, hw⟩; subst w1)
  go_ret
  exact ⟨rfl, rfl⟩
theorem cwrite_far {B : Nat} {E : List Nat} {w : World} {c j dp : Nat} {d : Dv} {T : List (List Nat)} {off : Bool} {hl : List Nat} {f : Nat → List Nat} (h : CP B E w c j dp d T off (some (hl, f))) (k : Int) (hk : hasJ d.n k = false) (v : Value) : Calls Tryd.prog 13 #[.pointer (some ⟨c, 0, none⟩), .int .i64 k, v] w fun e w' => e = .returned (.int .i64 1) ∧ Below w.heap.size w w' := by
  go_enter Tryd.func13, Tryd.ntmps13
  go_wp2_with (first
    | (go_at_call 18; refine (copen_some h).mono ?_; rintro e w1 ⟨rfl, hw⟩; subst w1)
    | (go_at_call 29; refine (chome_no h k hk).mono ?_; rintro e w2 ⟨rfl, hb2⟩))
  go_ret
  exact ⟨rfl, hb2⟩
theorem cwrite_len {B : Nat} {E : List Nat} {w : World} {c j dp : Nat} {d : Dv} {T : List (List Nat)} {off : Bool} {V : Nat → List Nat} {hl : List Nat} {f : Nat → List Nat} (h : CP B E w c j dp d T off (some (hl, f))) (hR : Rest d T V) (k : Nat) (h1 : 245 ≤ k) (h2 : k < d.n) (a : Option Addr) (len cap : Nat) (hlen : ((len : Int) != 512) = true) : Calls Tryd.prog 13 #[.pointer (some ⟨c, 0, none⟩), .int .i64 (k : Int), .slice a len cap] w fun e w' => e = .returned (.int .i64 1) ∧ Below w.heap.size w w' := by
  have HH : Hid _ := chome_yes h hR k h1 h2
  clear hR
  go_enter Tryd.func13, Tryd.ntmps13
  go_wp2_with (first
    | (go_at_call 18; refine (copen_some h).mono ?_; rintro e w1 ⟨rfl, hw⟩; subst w1)
    | (go_at_call 29; refine Calls.mono HH.out ?_; rintro e w2 ⟨rfl, hb2⟩))
  go_ret
  exact ⟨rfl, hb2⟩
theorem cwrite_big {B : Nat} {E : List Nat} {w1 w : World} {c j dp : Nat} {d : Dv} {T : List (List Nat)} {off : Bool} {V : Nat → List Nat} {hl : List Nat} {f : Nat → List Nat} (hF : Fr B E w1 w) (h : CP B E w c j dp d T off (some (hl, f))) (hR : Rest d T V) (k : Nat) (h1 : 245 ≤ k) (h2 : k < d.n) (hf : fullB hl k = true) (a : Option Addr) (cap : Nat) : Calls Tryd.prog 13 #[.pointer (some ⟨c, 0, none⟩), .int .i64 (k : Int), .slice a 512 cap] w fun e w' => e = .returned (.int .i64 2) ∧ Fr B E w1 w' ∧ CP B E w' c j dp d T off (some (hl, f)) := by
  have HH : Hid _ := chome_yes h hR k h1 h2
  have HU : Hid (∀ w', Below w.heap.size w w' → Calls Tryd.prog 30 #[.pointer (some ⟨c, 0, none⟩), .int .i64 (k : Int)] w' fun e w'' => e = .returned (.bool true) ∧ Below w'.heap.size w' w'') := fun w' hb => by rw [← hf]; exact cfull_any (h.below hb) k
  have HP : Hid (∀ w', Below w.heap.size w w' → Fr B E w1 (w'.setCell ⟨c, 2, none⟩ (.bool true)) ∧ CP B E (w'.setCell ⟨c, 2, none⟩ (.bool true)) c j dp d T off (some (hl, f))) := fun w' hb => CP.flag hF h hb true
  have HQ : Hid (∀ w', Below w.heap.size w w' → ∃ r, w'.cell? ⟨c, 2, none⟩ = some (.bool r) ∧ w'.frozen? ⟨c, 2, none⟩ = false) := fun w' hb => (h.below hb).cell2
  clear hR hF
  go_enter Tryd.func13, Tryd.ntmps13
  go_wp2_with (first
    | (go_at_call 18; refine (copen_some h).mono ?_; rintro e w1 ⟨rfl, hw⟩; subst w1)
    | (go_at_call 29; refine Calls.mono HH.out ?_; rintro e w2 ⟨rfl, hb2⟩)
    | (go_at_call 30; refine (HU.out _ hb2).mono ?_; rintro e w3 ⟨rfl, hb3⟩; have hb23 := hb2.trans (hb3.mono hb2.size); obtain ⟨r2, q1, q2⟩ := HQ.out w3 hb23))
  go_ret
  exact ⟨rfl, HP.out _ hb23⟩
def addK (hl : List Nat) (k : Nat) : List Nat := if k ∈ hl then hl else hl ++ [k]
def updK (f : Nat → List Nat) (k : Nat) (c : List Nat) : Nat → List Nat := fun x => if x = k then c else f x
theorem mem_addK {hl : List Nat} {k x : Nat} : x ∈ addK hl k ↔ x ∈ hl ∨ x = k := by
  unfold addK; split
  · rename_i h
    exact ⟨.inl, fun q => q.elim id (fun e => e ▸ h)⟩
  · simp
theorem addK_nd {hl : List Nat} {k : Nat} (h : hl.Nodup) : (addK hl k).Nodup := by
  unfold addK; split
  · exact h
  · rename_i q
    rw [List.nodup_append]
    exact ⟨h, by simp, fun a ha b hb e => q (by simp at hb; rw [← hb, ← e]; exact ha)⟩
theorem addK_len {hl : List Nat} {k : Nat} : (addK hl k).length = if k ∈ hl then hl.length else hl.length + 1 := by
  unfold addK; split <;> simp
theorem wv_put (hl : List Nat) (f : Nat → List Nat) (k : Nat) (c : List Nat) : put (wv hl f) k (bv c) = wv (addK hl k) (updK f k c) := by
  funext x
  unfold put wv updK
  by_cases e : x = k
  · subst e; simp [mem_addK]
  · simp [e, mem_addK]
/-- What a write into the map leaves. -/
theorem WIs.store {w : World} {n wb : Nat} {hl : List Nat} {f : Nat → List Nat} (h : WIs w n wb hl f) (k : Nat) (h1 : 245 ≤ k) (h2 : k < n) (hf : fullB hl k = false) (c : List Nat) (hc : c.length = 512) (hcb : ∀ i, c.getD i 0 < 256) :
    ∃ es cl, (∀ w', w'.heap[wb]? = w.heap[wb]? → (Instr.mapUpdate 63 (.map (some wb)) (.int .i64 (k : Int)) (.agg (cv c).toArray)).run Tryd.prog w' = .ok () (setBlock w' wb (.map es cl))) ∧
      ∀ w', w'.heap[wb]? = w.heap[wb]? → WIs (setBlock w' wb (.map es cl)) n wb (addK hl k) (updK f k c) := by
  have hlt := h.lt
  obtain ⟨⟨m, hm⟩, nd, few, home, dat⟩ := h
  obtain ⟨es, cl, r, En, s⟩ := hm.store kbI Tryd.underlying63 k (.agg (cv c).toArray)
  refine ⟨es, cl, r, fun w' e => ⟨⟨_, es, cl, setBlock_same _ _ _ ?_, ?_, s⟩, addK_nd nd, ?_, fun x hx => ?_, fun x hx => ?_⟩⟩
  · rcases Nat.lt_or_ge wb w'.heap.size with q | q
    · exact q
    · rw [Array.getElem?_eq_none q, Array.getElem?_eq_getElem hlt] at e; cases e
  · rw [← wv_put]; exact En
  · rw [addK_len]
    split
    · exact few
    · rename_i q
      simp only [fullB, decide_eq_false_iff_not] at hf
      have : hl.length ≠ 60 := fun e => hf ⟨q, e⟩
      omega
  · rcases mem_addK.1 hx with q | rfl
    · exact home x q
    · exact ⟨h1, h2⟩
  · unfold updK
    split
    · exact ⟨hc, hcb⟩
    · rename_i e
      rcases mem_addK.1 hx with q | q
      · exact dat x q
      · exact absurd q e
theorem CP.put {B : Nat} {E : List Nat} {w1 w w2 : World} {c j dp wb : Nat} {d : Dv} {T : List (List Nat)} {off : Bool} {hl hl' : List Nat} {f f' : Nat → List Nat} (hF : Fr B E w1 w) (h : CP B E w c j dp d T off (some (hl, f))) (c1 : w.cell? ⟨c, 1, none⟩ = some (.map (some wb))) (hb : Below w.heap.size w w2) (o : Obj) (hW : WIs (setBlock w2 wb o) d.n wb hl' f') :
    Fr B E w1 (setBlock w2 wb o) ∧ CP B E (setBlock w2 wb o) c j dp d T off (some (hl', f')) := by
  obtain ⟨L, ⟨wb', rfl, ⟨r0, hc⟩, hW'⟩, h2, FP, hJ, h3⟩ := id h
  have e : wb' = wb := by
    rw [cell_of_row _ _ _ _ _ _ hc] at c1
    simp [ccells] at c1
    exact c1
  subst e
  have k : Keeps [wb'] w2 (setBlock w2 wb' o) := (Keeps.refl _ _).setBlock _ _ (by simp)
  have hne : c ≠ wb' := fun e => by
    obtain ⟨es, cl, ho, _⟩ := hW'.obj
    rw [← e, hc] at ho
    cases ho
  have hcl : c < w.heap.size := (Array.getElem?_eq_some_iff.1 hc).1
  refine ⟨(hF.below hb).keeps k (fun x hx => by simp at hx; subst hx; exact h2 _ (by simp)), [c, wb'], ⟨wb', rfl, ⟨r0, ?_⟩, hW⟩, h2, FP, (hJ.below hb).keeps k (fun x hx q => ?_), h3⟩
  · exact ((k.block c (Nat.lt_of_lt_of_le hcl hb.size) (by simpa using hne)).trans (hb.block c hcl)).trans hc
  · simp at q; subst q
    exact (h3 _ hx).2 (by simp)
theorem array68 (w : World) (g : Nat) : (Instr.arrayAt 68 (.slice (some ⟨g, 0, none⟩) 512 512)).run Tryd.prog w = .ok (.pointer (some ⟨g, 0, none⟩)) w := by
  simp [Instr.arrayAt, run_underlying Tryd.underlying68, go_sem]
theorem cwrite_ok {B : Nat} {E : List Nat} {w1 w : World} {c j dp : Nat} {d : Dv} {T : List (List Nat)} {off : Bool} {V : Nat → List Nat} {hl : List Nat} {f : Nat → List Nat} (hF : Fr B E w1 w) (h : CP B E w c j dp d T off (some (hl, f))) (hR : Rest d T V) (k : Nat) (h1 : 245 ≤ k) (h2 : k < d.n) (hf : fullB hl k = false) {g ty : Nat} {q : List Nat} (hg : Full w g ty q) (hq : q.length = 512) (hqb : ∀ i, q.getD i 0 < 256) : Calls Tryd.prog 13 #[.pointer (some ⟨c, 0, none⟩), .int .i64 (k : Int), .slice (some ⟨g, 0, none⟩) 512 512] w fun e w' => e = .returned (.int .i64 0) ∧ Fr B E w1 w' ∧ CP B E w' c j dp d T off (some (addK hl k, updK f k q)) := by
  obtain ⟨wb, c0, c1, hW⟩ := h.cellsO
  have HH : Hid _ := chome_yes h hR k h1 h2
  have HU : Hid (∀ w', Below w.heap.size w w' → Calls Tryd.prog 30 #[.pointer (some ⟨c, 0, none⟩), .int .i64 (k : Int)] w' fun e w'' => e = .returned (.bool false) ∧ Below w'.heap.size w' w'') := fun w' hb => by rw [← hf]; exact cfull_any (h.below hb) k
  obtain ⟨es, cl, r1, r2⟩ := hW.store k h1 h2 hf q hq hqb
  have HP : Hid (∀ w', Below w.heap.size w w' → Fr B E w1 (setBlock w' wb (.map es cl)) ∧ CP B E (setBlock w' wb (.map es cl)) c j dp d T off (some (addK hl k, updK f k q))) := fun w' hb => CP.put hF h c1 hb _ (r2 w' (hb.block _ hW.lt))
  have HC : Hid (∀ w', Below w.heap.size w w' → w'.cell? ⟨c, 1, none⟩ = some (.map (some wb)) ∧ Full w' g ty q ∧ (Instr.mapUpdate 63 (.map (some wb)) (.int .i64 (k : Int)) (.agg (cv q).toArray)).run Tryd.prog w' = .ok () (setBlock w' wb (.map es cl))) := fun w' hb => ⟨(hb.cell (World.block_lt_of_cell? _ _ c1)).trans c1, hg.below hb, r1 w' (hb.block _ hW.lt)⟩
  have hu := Tryd.underlying68
  have hA := fun w => array68 w g
  have hi : (Tryd.prog.info? 68).map (·.size) = some (cv q).length := by rw [(zero_of_info zero68).2, cv_length, hq]
  have h5 : (cv q).length = 512 := by rw [cv_length, hq]
  have h1c := cv_one q
  clear hR hW r1 r2 hq
  go_enter Tryd.func13, Tryd.ntmps13
  go_wp2_with (first
    | (go_at_call 18; refine (copen_some h).mono ?_; rintro e w1 ⟨rfl, hw⟩; subst w1)
    | (go_at_call 29; refine Calls.mono HH.out ?_; rintro e w2 ⟨rfl, hb2⟩)
    | (go_at_call 30; refine (HU.out _ hb2).mono ?_; rintro e w3 ⟨rfl, hb3⟩; have hb23 := hb2.trans (hb3.mono hb2.size); obtain ⟨q1, q2, q3⟩ := HC.out w3 hb23; have q4 := q2.range; have hbd : Below w.heap.size w w3.drew := ⟨hb23.os, hb23.tape, hb23.output, hb23.size, hb23.block⟩; obtain ⟨_, _, q5⟩ := HC.out w3.drew hbd))
  refine wp_region_still_tail 8 (by kernel_rfl) (by kernel_rfl) ?_
  simp only [List.take_succ_cons, List.take_zero, List.drop_succ_cons, List.drop_zero]
  repeat (first | (refine still_load_mid (by rfl) 68 _ (by rfl) g 0 (by rfl) (cv q) _ q4 hu rfl hi ?_) | still_step)
  refine wpStill_nil ?_
  go_frame
  go_wp2
  go_ret
  exact ⟨rfl, HP.out _ hbd⟩
/-! What a transaction wrote, as a row of changes; Commit. -/
/-- The cells of a row of changes. -/
def chv (hl gs : List Nat) : List Value := (List.zip hl gs).flatMap fun p => [Value.int .i64 (p.1 : Int), .slice (some ⟨p.2, 0, none⟩) 512 512]
theorem chv_app (hl gs : List Nat) (k g : Nat) (h : gs.length = hl.length) : chv (hl ++ [k]) (gs ++ [g]) = chv hl gs ++ [.int .i64 (k : Int), .slice (some ⟨g, 0, none⟩) 512 512] := by
  unfold chv
  rw [List.zip_append h.symm, List.flatMap_append]
  rfl
theorem chv_get : ∀ (hl gs : List Nat) (h : gs.length = hl.length) (i : Nat), i < hl.length → (chv hl gs)[i * 2]? = some (.int .i64 ((hl.getD i 0 : Nat) : Int)) ∧ (chv hl gs)[i * 2 + 1]? = some (.slice (some ⟨gs.getD i 0, 0, none⟩) 512 512)
  | [], _, _, i, hi => by simp at hi
  | a :: r, [], h, i, hi => by simp at h
  | a :: r, b :: s, h, 0, hi => by simp [chv]
  | a :: r, b :: s, h, i + 1, hi => by
    have := chv_get r s (by simpa using h) i (by simpa using hi)
    have e : chv (a :: r) (b :: s) = [.int .i64 (a : Int), .slice (some ⟨b, 0, none⟩) 512 512] ++ chv r s := by simp [chv]
    rw [e, show (i + 1) * 2 = i * 2 + 2 by omega]
    simpa using this
theorem info95 : (Tryd.prog.info? 94).map (fun i => (i.zero, i.size, i.bytes)) = some (some (.agg #[.int .i64 0, .slice none 0 0]), 2, 32) := by kernel_rfl
theorem own95 {w w' : World} {base n : Nat} {v : Value} {xs : List Value} (ho : w.ownsRow base 94 2 v n xs) (hg : w.grownBy w' v.ownBlock) {b t : Nat} {A : Array Value} (hb : w.heap[b]? = some (.cells A t (0, 0))) (ht : t ≠ 94) : w'.heap[b]? = some (.cells A t (0, 0)) := by
  refine (hg.block b (Array.getElem?_eq_some_iff.1 hb).1 (fun e => ?_)).trans hb
  rcases ho.2 with ⟨rfl, _⟩ | ⟨g, cap, cur, rfl, _, hgg, _⟩
  · cases e
  · cases e
    rw [hgg] at hb
    injection hb with q
    injection q with _ q2
    exact ht q2.symm
/-- On the way through the homes that were written. -/
structure ChAt (W wr : World) (v : Value) (hs gs : List Nat) (f : Nat → List Nat) : Prop where
  own : wr.ownsRow W.heap.size 94 2 v hs.length (chv hs gs)
  gsl : gs.length = hs.length
  dat : ∀ i, i < hs.length → Full wr (gs.getD i 0) 68 (f (hs.getD i 0)) ∧ W.heap.size ≤ gs.getD i 0
  bel : Below W.heap.size W wr
theorem ChAt.nil (W : World) (f : Nat → List Nat) : ChAt W W (.slice none 0 0) [] [] f := ⟨World.ownsRow_nil _ _ _ _, rfl, fun i hi => by simp at hi, Below.refl _ _⟩
def chW (wr : World) (K : Nat) (q : List Nat) : World := ((wr.alloc (.cells (cv zeros).toArray 68)).setRow wr.heap.size (cv q).toArray).alloc (.cells #[.int .i64 (K : Int), .slice (some ⟨wr.heap.size, 0, none⟩) 512 512] 94)
theorem chW_facts (wr : World) (K : Nat) (q : List Nat) : Below wr.heap.size wr (chW wr K q) ∧ Full (chW wr K q) wr.heap.size 68 q ∧ (chW wr K q).heap[wr.heap.size + 1]? = some (.cells #[.int .i64 (K : Int), .slice (some ⟨wr.heap.size, 0, none⟩) 512 512] 94) ∧ (chW wr K q).heap.size = wr.heap.size + 2 := by
  have g0 := heap_alloc_new wr (.cells (cv zeros).toArray 68)
  have b0 : Below wr.heap.size wr (wr.alloc (.cells (cv zeros).toArray 68)) := (Below.refl _ _).alloc (Nat.le_refl _) _
  have b1 : Below wr.heap.size wr ((wr.alloc (.cells (cv zeros).toArray 68)).setRow wr.heap.size (cv q).toArray) := b0.trans ⟨rfl, rfl, rfl, by simp, fun x hx => setRow_other _ _ _ _ (by omega)⟩
  have s1 : ((wr.alloc (.cells (cv zeros).toArray 68)).setRow wr.heap.size (cv q).toArray).heap.size = wr.heap.size + 1 := by
    simp
  have f1 : Full ((wr.alloc (.cells (cv zeros).toArray 68)).setRow wr.heap.size (cv q).toArray) wr.heap.size 68 q := setRow_heap _ _ _ _ _ _ g0
  have b2 := (Below.refl ((wr.alloc (.cells (cv zeros).toArray 68)).setRow wr.heap.size (cv q).toArray).heap.size ((wr.alloc (.cells (cv zeros).toArray 68)).setRow wr.heap.size (cv q).toArray)).alloc (Nat.le_refl _) (.cells #[.int .i64 (K : Int), .slice (some ⟨wr.heap.size, 0, none⟩) 512 512] 94)
  have e3 := heap_alloc_new ((wr.alloc (.cells (cv zeros).toArray 68)).setRow wr.heap.size (cv q).toArray) (.cells #[.int .i64 (K : Int), .slice (some ⟨wr.heap.size, 0, none⟩) 512 512] 94)
  rw [s1] at e3
  refine ⟨b1.trans (b2.mono b1.size), f1.below b2, e3, ?_⟩
  unfold chW
  show (Array.push _ _).size = _
  rw [Array.size_push, s1]
theorem ChAt.step {W wr w5 : World} {v v' : Value} {K : Nat} {hs gs : List Nat} {f : Nat → List Nat} (h : ChAt W wr v hs gs f) (hg5 : (chW wr K (f K)).grownBy w5 v.ownBlock) (hown : w5.ownsRow W.heap.size 94 2 v' (hs.length + 1) (chv hs gs ++ [.int .i64 (K : Int), .slice (some ⟨wr.heap.size, 0, none⟩) 512 512])) : ChAt W w5 v' (hs ++ [K]) (gs ++ [wr.heap.size]) f := by
  obtain ⟨b4, f4, _, s4⟩ := chW_facts wr K (f K)
  have o4 := owns_below h.own b4
  have hz := h.bel.size
  refine ⟨?_, by simp [h.gsl], fun i hi => ?_, ?_⟩
  · rw [chv_app _ _ _ _ h.gsl]
    simpa using hown
  · by_cases hi2 : i < hs.length
    · obtain ⟨d1, d2⟩ := h.dat i hi2
      have e1 : (gs ++ [wr.heap.size]).getD i 0 = gs.getD i 0 := by simp [List.getD, List.getElem?_append, show i < gs.length by rw [h.gsl]; exact hi2]
      have e2 : (hs ++ [K]).getD i 0 = hs.getD i 0 := by simp [List.getD, List.getElem?_append, hi2]
      rw [e1, e2]
      exact ⟨own95 o4 hg5 (d1.below b4) (by decide), d2⟩
    · obtain rfl : i = hs.length := by simp at hi; omega
      have e1 : (gs ++ [wr.heap.size]).getD hs.length 0 = wr.heap.size := by simp [List.getD, ← h.gsl]
      have e2 : (hs ++ [K]).getD hs.length 0 = K := by simp [List.getD]
      rw [e1, e2]
      exact ⟨own95 o4 hg5 f4 (by decide), hz⟩
  · have h4 := h.bel.trans (b4.mono h.bel.size)
    exact h4.grown hg5 h4.size (fun x hx => (o4.lt x hx).1)
theorem ints_row {w : World} {base : Nat} {v : Value} {ks : List Nat} (h : w.ownsRow base 3 1 v ks.length (ks.map mkI)) : ∃ a cap, v = .slice a ks.length cap ∧ (0 < ks.length → ∃ g, a = some ⟨g, 0, none⟩) ∧ ∀ g i, a = some ⟨g, 0, none⟩ → i < ks.length → w.cell? ⟨g, i, none⟩ = some (.int .i64 ((ks.getD i 0 : Nat) : Int)) ∧ g < w.heap.size := by
  rcases h.2 with ⟨rfl, h0⟩ | ⟨g, cap, cur, rfl, hB, hg, _⟩
  · have hk : ks.length = 0 := by simpa using h0
    exact ⟨none, 0, by rw [hk], fun q => by omega, fun g i e => by cases e⟩
  · refine ⟨some ⟨g, 0, none⟩, cap, rfl, fun _ => ⟨g, rfl⟩, fun g' i e hi => ?_⟩
    cases e
    have := h.cells rfl i (.int .i64 ((ks.getD i 0 : Nat) : Int)) (by simp [List.getD, hi, mkI])
    rw [Addr.add_lit, Nat.zero_add] at this
    exact ⟨this, (Array.getElem?_eq_some_iff.1 hg).1⟩
/-- What changes answers. -/
def ChPost (w : World) (hl : List Nat) (f : Nat → List Nat) (e : Ending) (w' : World) : Prop :=
  ∃ (v : Value) (W : World) (ks gs : List Nat), e = .returned v ∧ ChAt W w' v ks gs f ∧ Below w.heap.size w W ∧ ks.Nodup ∧ ∀ k, k ∈ ks ↔ k ∈ hl
set_option maxHeartbeats 1000000 in
theorem changes_any {B : Nat} {E : List Nat} {w : World} {c j dp : Nat} {d : Dv} {T : List (List Nat)} {off : Bool} {hl : List Nat} {f : Nat → List Nat} (h : CP B E w c j dp d T off (some (hl, f))) :
    Calls Tryd.prog 31 #[.pointer (some ⟨c, 0, none⟩)] w (ChPost w hl f) := by
  obtain ⟨wb, c0, c1, hW⟩ := h.cellsO
  obtain ⟨i0, hi, hz0, hz1, hz2⟩ := info_parts info95
  have hn2 := h.ok.n2
  have hlen60 := hW.few
  have HS : Hid (Calls Tryd.prog 43 #[.func (.func 72) #[] #[.pointer (some ⟨w.heap.size, 0, none⟩)]] (w.alloc (.cells #[.map (some wb)] 63)) fun e w' => ∃ (a : Option Addr) (cap : Nat) (ks : List Nat), e = .returned (.slice a ks.length cap) ∧ (0 < ks.length → ∃ g, a = some ⟨g, 0, none⟩) ∧ (∀ g i, a = some ⟨g, 0, none⟩ → i < ks.length → w'.cell? ⟨g, i, none⟩ = some (.int .i64 ((ks.getD i 0 : Nat) : Int)) ∧ g < w'.heap.size) ∧ (∀ k, k ∈ ks ↔ k ∈ hl) ∧ ks.Nodup ∧ ks.length ≤ 60 ∧ Below w.heap.size w w') := by
    obtain ⟨m, es, cl, hb, En, hm⟩ := hW.map
    have hsz := wv_count En hW.nd
    refine (sortedC_any wb es.size (wv hl f) w ⟨es, cl, hb, En, Nat.le_refl _⟩ (by omega) (fun k v hk => ?_)).mono ?_
    · unfold wv at hk
      split at hk
      · rename_i q; have := hW.home k q; omega
      · cases hk
    · rintro e w' ⟨v, ks, rfl, h1, h2, h3, h4, h5⟩
      obtain ⟨a, cap, rfl, r1, r2⟩ := ints_row h3
      refine ⟨a, cap, ks, rfl, r1, r2, fun k => ?_, h2.imp (fun q => by omega), by omega, h5⟩
      rw [h1 k]
      unfold wv
      constructor
      · rintro ⟨u, hu⟩
        split at hu
        · assumption
        · cases hu
      · intro q; exact ⟨_, if_pos q⟩
  have HL : Hid (∀ w', Below w.heap.size w w' → ∀ K, K ∈ hl → w'.cell? ⟨c, 1, none⟩ = some (.map (some wb)) ∧ (Instr.lookup 63 (.map (some wb)) (.int .i64 (K : Int)) false).run Tryd.prog w' = .ok (.agg (cv (f K)).toArray) w' ∧ (Instr.lookup 63 (.map (some wb)) (.int .i64 (K : Int)) false).run Tryd.prog (w'.alloc (.cells (cv zeros).toArray 68)) = .ok (.agg (cv (f K)).toArray) (w'.alloc (.cells (cv zeros).toArray 68)) ∧ (f K).length = 512) := fun w' hb K hK => by
    have hlt := hW.lt
    have e1 := hb.block _ hlt
    exact ⟨(hb.cell (World.block_lt_of_cell? _ _ c1)).trans c1, hW.look1 K hK w' e1, hW.look1 K hK _ ((Below.heap_alloc _ _ _ (Nat.lt_of_lt_of_le hlt hb.size)).trans e1), (hW.dat K hK).1⟩
  have hz := (zero_of_info zero68).1
  unfold bv at hz
  clear hW h
  go_enter Tryd.func31, Tryd.ntmps31
  go_wp2_with (first
    | (go_at_call 49; refine (keysC_any _ _).mono ?_; rintro e w2 ⟨rfl, hw⟩; subst w2)
    | (go_at_call 43; refine Calls.mono HS.out ?_; rintro e w3 ⟨a, cap, ks, rfl, r1, r2, r3, r4, r5, hb3⟩))
  have hlI : (ks.length : Int) ≤ 60 := by omega
  have HR1 : Hid _ := r1
  have HR2 : Hid (∀ g i, a = some ⟨g, 0, none⟩ → i < ks.length → w3.cell? ⟨g, i, none⟩ = some (.int .i64 ((ks.getD i 0 : Nat) : Int)) ∧ g < w3.heap.size) := r2
  have HR3 : Hid (∀ k, k ∈ ks ↔ k ∈ hl) := r3
  have HR4 : Hid (ks.Nodup) := r4
  clear r1 r2 r3 r4
  go_loopw [2, 13] (fun v i wr => ∃ k gs, k ≤ ks.length ∧ i = .int .i64 ((k : Nat) : Int) ∧ ChAt w3 wr v (ks.take k) gs f) (fun _ i _ => ks.length - (intOf i).toNat)
  case atStart => exact ⟨0, [], by omega, rfl, ChAt.nil _ _⟩
  case round =>
    obtain ⟨k, gs, hk, rfl, hA⟩ := hrel
    have htl : (ks.take k).length = k := by simp; omega
    by_cases hlt : k < ks.length
    · have hltI : (k : Int) < (ks.length : Int) := by omega
      obtain ⟨ga, rfl⟩ := HR1.out (by omega)
      obtain ⟨hc3, hga⟩ := HR2.out ga k rfl hlt
      have hcell : wr.cell? ⟨ga, k, none⟩ = some (.int .i64 ((ks.getD k 0 : Nat) : Int)) := (hA.bel.cell hga).trans hc3
      have hKm : ks.getD k 0 ∈ hl := (HR3.out _).1 (by simp [List.getD, hlt])
      have htake : ks.take (k + 1) = ks.take k ++ [ks.getD k 0] := by rw [List.take_add_one, List.getElem?_eq_getElem hlt]; simp only [List.getD, List.getElem?_eq_getElem hlt, Option.toList_some, Option.getD_some]
      obtain ⟨K, HK⟩ : ∃ K, Hid (ks.getD k 0 = K) := ⟨_, rfl⟩
      rw [HK.out] at hcell hKm htake
      have hbw := hb3.trans (hA.bel.mono hb3.size)
      obtain ⟨q1, q2, q3, q4⟩ := HL.out wr hbw K hKm
      obtain ⟨z1, z2, z3, z4⟩ := chW_facts wr K (f K)
      have g0 := heap_alloc_new wr (.cells (cv zeros).toArray 68)
      have hs := size68 (f K) q4
      have HFL : Hid ((f K).length = 512) := q4
      have hown6 := owns_below hA.own z1
      rw [htl] at hown6
      have hnw : ∀ (jx : Nat) (u : Value), [Value.int .i64 (K : Int), .slice (some ⟨wr.heap.size, 0, none⟩) 512 512][jx]? = some u → (chW wr K (f K)).cell? ((⟨wr.heap.size + 1, 0, none⟩ : Addr).add jx) = some u := by
        intro jx u hj
        rw [Addr.add_lit, cell_of_row _ _ _ _ _ _ z3]
        simpa using hj
      have h1c : ∀ u ∈ [Value.int .i64 (K : Int), .slice (some ⟨wr.heap.size, 0, none⟩) 512 512], u.oneCell' = true := by intro u hu; simp at hu; rcases hu with rfl | rfl <;> rfl
      have x1 : k + 1 ≤ maxLen := by unfold maxLen; omega
      have x2 : (k + 1) * 32 ≤ 140737488355328 := by omega
      have x3 : w3.heap.size ≤ (chW wr K (f K)).heap.size := by have := hA.bel.size; omega
      have HA : Hid (ChAt w3 wr u2 (ks.take k) gs f) := hA
      have HTK : Hid (ks.take (k + 1) = ks.take k ++ [K]) := htake
      have HTL : Hid ((ks.take k).length = k) := htl
      clear hA hKm htake htl z1 z2 z3 z4 q4 hc3
      generalize hfk : f K = Q at *
      unfold chW at hown6 hnw x3
      go_wp2_with (first
        | (have _t := g0; refine wpList_store_row rfl 68 _ _ rfl wr.heap.size (cv Q).toArray rfl rfl 68 (cv zeros).toArray g0 hs (by rw [List.size_toArray, List.size_toArray, cv_length, cv_length, zeros_len, HFL.out]) (cv_all _) ?_; clear g0 _t)
        | (at_builtin; refine wpList_append_own _ rfl _ _ 69 rfl w3.heap.size 94 i0 (.agg #[.int .i64 0, .slice none 0 0]) 2 32 Tryd.underlying69 hi hz0 hz1 hz2 rfl (by decide) u2 k (chv (ks.take k) gs) rfl hown6 ⟨wr.heap.size + 1, 0, none⟩ 1 1 [Value.int .i64 (K : Int), .slice (some ⟨wr.heap.size, 0, none⟩) 512 512] rfl rfl hnw h1c x1 x2 x3 ?_; intro v' w7 hown7 hg7 hnil7))
      refine ⟨⟨k + 1, gs ++ [wr.heap.size], by omega, by go_num, ?_⟩, by simp [intOf]; omega⟩
      rw [HTK.out]
      refine HA.out.step ?_ (by rw [HTL.out]; exact hown7)
      rw [hfk]; exact hg7
    · obtain rfl : k = ks.length := by omega
      rw [List.take_length] at hA
      go_wp2
      go_ret
      exact ⟨_, w3, ks, gs, rfl, hA, hb3, HR4.out, HR3.out⟩
/-! Commit of a cache. -/
theorem JP.keeps {B : Nat} {E G : List Nat} {w w' : World} {j dp : Nat} {d : Dv} {T : List (List Nat)} {off : Bool} (h : JP B E w j dp d T off) (k : Keeps G w w') (hG : ∀ x ∈ G, x ∈ E) : JP B E w' j dp d T off := by
  obtain ⟨FP, hj, hF⟩ := h
  exact ⟨FP, hj.keeps k (fun x hx q => (hF x hx).2 (hG x q)), hF⟩
/-- The row of changes, as Commit takes it. -/
theorem ChAt.chs {W w2 w3 : World} {v : Value} {ks gs : List Nat} {f : Nat → List Nat} (h : ChAt W w2 v ks gs f) (hk : 0 < ks.length) (n : Nat) (h60 : ks.length ≤ 60) (nd : ks.Nodup) (home : ∀ k ∈ ks, 245 ≤ k ∧ k < n) (dat : ∀ k ∈ ks, (f k).length = 512 ∧ ∀ i, (f k).getD i 0 < 256)
    (h3 : ∀ x, W.heap.size ≤ x → w3.heap[x]? = w2.heap[x]?) (E : List Nat) : ∃ lk cap, v = .slice (some ⟨lk, 0, none⟩) ks.length cap ∧ (∀ x ∈ lk :: gs, W.heap.size ≤ x ∧ x < w2.heap.size) ∧ Chs ((lk :: gs) ++ E) w3 n lk ks gs (ks.map f) := by
  rcases h.own.2 with ⟨rfl, h1⟩ | ⟨lk, cap, cur, rfl, hB, hg, hle, hm, hcs, ht⟩
  · have e1 : ks.length = 0 := by simpa using h1
    omega
  · refine ⟨lk, cap, rfl, fun x hx => ?_, ⟨by simp [h.gsl], fun i hi => ?_⟩, h.gsl, fun i hi => ?_, by simp, fun e => by rw [e] at hk; simp at hk, h60, nd, home⟩
    · rcases List.mem_cons.1 hx with rfl | hx
      · exact ⟨hB, (Array.getElem?_eq_some_iff.1 hg).1⟩
      · obtain ⟨i, hi, rfl⟩ := List.getElem_of_mem hx
        have := h.dat i (by rw [← h.gsl]; exact hi)
        have e : gs.getD i 0 = gs[i] := by simp [List.getD, hi]
        rw [e] at this
        exact ⟨this.2, this.1.lt⟩
    · obtain ⟨q1, q2⟩ := chv_get ks gs h.gsl i hi
      have a1 := h.own.cells (g := lk) rfl _ _ q1
      have a2 := h.own.cells (g := lk) rfl _ _ q2
      rw [Addr.add_lit, Nat.zero_add] at a1 a2
      have c3 : ∀ x, w3.cell? ⟨lk, x, none⟩ = w2.cell? ⟨lk, x, none⟩ := fun x => cell_blk (h3 lk hB)
      have e : (gs.map fun g => Value.slice (some ⟨g, 0, none⟩) 512 512).getD i undef = .slice (some ⟨gs.getD i 0, 0, none⟩) 512 512 := by simp [List.getD, show i < gs.length by rw [h.gsl]; exact hi]
      exact ⟨(c3 _).trans a1, by rw [e]; exact (c3 _).trans a2, by rw [e]; exact ⟨_, _, _, rfl⟩⟩
    · obtain ⟨d1, d2⟩ := h.dat i hi
      have e : (ks.map f).getD i [] = f (ks.getD i 0) := by simp [List.getD, hi]
      have hm : ks.getD i 0 ∈ ks := by simp [List.getD, hi]
      rw [e]
      exact ⟨d1.blk (h3 _ d2), by simp [List.getD, show i < gs.length by rw [h.gsl]; exact hi], dat _ hm⟩
theorem newS_tx (V : Nat → List Nat) (ks hl : List Nat) (f : Nat → List Nat) (nd : ks.Nodup) (hm : ∀ k, k ∈ ks ↔ k ∈ hl) : newS V ks (ks.map f) = txV V (some (hl, f)) := by
  funext k
  unfold newS txV
  by_cases h : k ∈ ks
  · have hi : ks.idxOf k < ks.length := List.idxOf_lt_length_of_mem h
    have e : ks[ks.idxOf k] = k := List.getElem_idxOf hi
    rw [if_pos h]
    simp only
    rw [if_pos ((hm k).1 h)]
    simp [List.getD, hi, e]
  · rw [if_neg h]
    simp only
    rw [if_neg (fun q => h ((hm k).2 q))]
/-- What Commit leaves. -/
def CCPost (B : Nat) (E : List Nat) (w1 : World) (c j dp : Nat) (d : Dv) (s t : Nat → List Nat) : Ending → World → Prop :=
  Ans (fun w' => Fr B E w1 w' ∧ ∃ d' T', CP B E w' c j dp d' T' false none ∧ Rest d' T' t ∧ Next d d' (d.n + 70)) (fun w' => Fr B E w1 w' ∧ ∃ d' T', CP B E w' c j dp d' T' true none ∧ Safe d' s t ∧ Next d d' (d.n + 70) ∧ d'.cut = true)
theorem CaIs.none_of {B : Nat} {E Ex : List Nat} {w3 w' : World} {c j dp : Nat} {d' : Dv} {T' : List (List Nat)} {off : Bool} {r : Bool} (hc : w3.heap[c]? = some (.cells (ccells j none r) 65 (0, 0))) (hcB : B ≤ c ∧ c ∉ E) (hF : Fr B (Ex ++ ([c] ++ E)) w3 w') (hJ : JP B (Ex ++ ([c] ++ E)) w' j dp d' T' off) : CP B E w' c j dp d' T' off none :=
  ⟨[c], ⟨rfl, r, (hF.same c (by simp)).trans hc⟩, fun x hx => by simp at hx; subst hx; exact hcB, hJ.ext (fun x hx => .inl (List.mem_append.2 (.inr hx)))⟩
theorem commit_run {B : Nat} {E : List Nat} {w1 w w2 : World} {c j dp : Nat} {d : Dv} {T : List (List Nat)} {V : Nat → List Nat} {hl : List Nat} {f : Nat → List Nat} (hF : Fr B E w1 w) (h : CP B E w c j dp d T false (some (hl, f))) (hR : Rest d T V) (ho : d.ops + (d.n + 70) ≤ 1000000) {e : Ending} (hp : ChPost w hl f e w2) :
    ∃ v, e = .returned v ∧ Below w.heap.size w w2 ∧ Calls Tryd.prog 32 #[.pointer (some ⟨j, 0, none⟩), v] (w2.setCell ⟨c, 1, none⟩ (.map none)) (CCPost B E w1 c j dp d V (txV V (some (hl, f)))) := by
  obtain ⟨v, W, ks, gs, rfl, hA, hbW, nd, hm⟩ := hp
  have hb2 : Below w.heap.size w w2 := hbW.trans (hA.bel.mono hbW.size)
  refine ⟨v, rfl, hb2, ?_⟩
  obtain ⟨wb, c0, c1, hW⟩ := h.cellsO
  obtain ⟨hF3, hC3⟩ := CP.close hF h hb2
  obtain ⟨L, ⟨wb', rfl, ⟨r0, hc⟩, hW'⟩, hLB, hJ⟩ := id h
  have hclt : c < w.heap.size := (Array.getElem?_eq_some_iff.1 hc).1
  have hc3 : (w2.setCell ⟨c, 1, none⟩ (.map none)).heap[c]? = some (.cells (ccells j none r0) 65 (0, 0)) := by
    rw [heap_setCell_same _ c 1 (ccells j (some wb') r0) 65 _ ((hb2.block c hclt).trans hc)]; simp [ccells]
  have hcB := hLB c (by simp)
  have k3 : Keeps [c] w2 (w2.setCell ⟨c, 1, none⟩ (.map none)) := (Keeps.refl _ _).setCell _ _ (by simp)
  have hsz3 : (w2.setCell ⟨c, 1, none⟩ (.map none)).heap.size = w2.heap.size := by simp [World.setCell]
  have hWz := hbW.size
  have hoth : ∀ x, W.heap.size ≤ x → (w2.setCell ⟨c, 1, none⟩ (.map none)).heap[x]? = w2.heap[x]? := fun x hx => heap_setCell_other _ _ _ _ (by show x ≠ c; omega)
  have hlen : ks.length = hl.length := Nat.le_antisymm (ndLe _ _ nd (fun x hx => (hm x).1 hx)) (ndLe _ _ hW.nd (fun x hx => (hm x).2 hx))
  have h60 := hW.few
  have hFw := hF.ltw
  rcases Nat.eq_zero_or_pos ks.length with hk | hk
  · have hk0 : ks = [] := List.length_eq_zero_iff.1 hk
    subst hk0
    have hv : ∃ a cap, v = .slice a 0 cap := by
      rcases hA.own.2 with ⟨rfl, _⟩ | ⟨g, cap, cur, rfl, _⟩
      · exact ⟨_, _, rfl⟩
      · exact ⟨_, _, rfl⟩
    obtain ⟨a, cap, rfl⟩ := hv
    obtain ⟨FP, hJo, _⟩ := hC3.jp
    have hrow : CRow (w2.setCell ⟨c, 1, none⟩ (.map none)) a [] [] := ⟨rfl, fun i hi => by simp at hi⟩
    refine (commit_no (cap := cap) (hasJ d.n) (jhas_all hJo) hrow (by simp) (.inr rfl)).mono ?_
    rintro e w' ⟨rfl, hb⟩
    have ht : txV V (some (hl, f)) = V := by
      funext k
      have : k ∉ hl := fun q => by have := (hm k).2 q; simp at this
      simp [txV, this]
    rw [ht]
    exact ⟨0, rfl, .inl ⟨rfl, hF3.below hb, d, T, hC3.below hb, hR, Next.refl _ _⟩⟩
  · obtain ⟨lk, cap, rfl, hEx, hch⟩ := hA.chs hk d.n (by omega) nd (fun k q => hW.home k ((hm k).1 q)) (fun k q => hW.dat k ((hm k).1 q)) hoth ([c] ++ E)
    have hF4 : Fr B ((lk :: gs) ++ ([c] ++ E)) (w2.setCell ⟨c, 1, none⟩ (.map none)) (w2.setCell ⟨c, 1, none⟩ (.map none)) := Fr.start (fun x hx => by
      rw [hsz3]
      rcases List.mem_append.1 hx with q | q
      · exact (hEx x q).2
      · rcases List.mem_append.1 q with q | q
        · simp at q; subst q; exact Nat.lt_of_lt_of_le hclt hb2.size
        · exact Nat.lt_of_lt_of_le (hFw x q) hb2.size) (by rw [hsz3]; exact Nat.le_trans (Nat.le_trans hF.big hF.size) hb2.size) hF.pos hF3.tab
    have hJ4 : JP B ((lk :: gs) ++ ([c] ++ E)) (w2.setCell ⟨c, 1, none⟩ (.map none)) j dp d T false := ((hJ.ext (E' := (lk :: gs) ++ ([c] ++ E)) (fun x hx => by
      rcases List.mem_append.1 hx with q | q
      · exact .inr (Nat.le_trans hWz (hEx x q).1)
      · exact .inl (by simp at q ⊢; rcases q with rfl | q; exact .inl rfl; exact .inr (.inr q)))).below hb2).keeps k3 (fun x hx => by simp at hx; subst hx; simp)
    have := commit_ok (cap := cap) hF4 hJ4 hR hch ho
    rw [newS_tx V ks hl f nd hm] at this
    refine this.mono ?_
    intro e w' hq
    exact hq.mono (fun ⟨a, d', T', b, r, n⟩ => ⟨hF3.trans a (fun x hx => by simp [hx]), d', T', CaIs.none_of hc3 hcB a b, r, n⟩) (fun ⟨a, d', T', b, r, n⟩ => ⟨hF3.trans a (fun x hx => by simp [hx]), d', T', CaIs.none_of hc3 hcB a b, r, n⟩)
theorem ccommit_nil (w : World) : Calls Tryd.prog 16 #[.pointer none] w fun e w' => e = .returned (.int .i64 8) ∧ w' = w := by
  go_enter Tryd.func16, Tryd.ntmps16
  go_wp2_with (go_at_call 18; refine (copen_nil _).mono ?_; rintro e w1 ⟨rfl, hw⟩; subst w1)
  go_ret
  exact ⟨rfl, rfl⟩
theorem ccommit_none {B : Nat} {E : List Nat} {w : World} {c j dp : Nat} {d : Dv} {T : List (List Nat)} {off : Bool} (h : CP B E w c j dp d T off none) : Calls Tryd.prog 16 #[.pointer (some ⟨c, 0, none⟩)] w fun e w' => e = .returned (.int .i64 8) ∧ w' = w := by
  go_enter Tryd.func16, Tryd.ntmps16
  go_wp2_with (go_at_call 18; refine (copen_none h).mono ?_; rintro e w1 ⟨rfl, hw⟩; subst w1)
  go_ret
  exact ⟨rfl, rfl⟩
theorem ccommit_ok {B : Nat} {E : List Nat} {w1 w : World} {c j dp : Nat} {d : Dv} {T : List (List Nat)} {V : Nat → List Nat} {hl : List Nat} {f : Nat → List Nat} (hF : Fr B E w1 w) (h : CP B E w c j dp d T false (some (hl, f))) (hR : Rest d T V) (ho : d.ops + (d.n + 70) ≤ 1000000) :
    Calls Tryd.prog 16 #[.pointer (some ⟨c, 0, none⟩)] w (CCPost B E w1 c j dp d V (txV V (some (hl, f)))) := by
  have HC : Hid _ := changes_any h
  have HR : Hid (∀ e w2, ChPost w hl f e w2 → ∃ v, e = .returned v ∧ Below w.heap.size w w2 ∧ Calls Tryd.prog 32 #[.pointer (some ⟨j, 0, none⟩), v] (w2.setCell ⟨c, 1, none⟩ (.map none)) (CCPost B E w1 c j dp d V (txV V (some (hl, f))))) := fun e w2 hp => commit_run hF h hR ho hp
  obtain ⟨wb, c0, c1, hW⟩ := h.cellsO
  obtain ⟨wbo, r0, hc⟩ := h.frozen
  have HW : Hid (∀ w2, Below w.heap.size w w2 → w2.cell? ⟨c, 0, none⟩ = some (.pointer (some ⟨j, 0, none⟩)) ∧ w2.cell? ⟨c, 1, none⟩ = some (.map (some wb)) ∧ w2.frozen? ⟨c, 1, none⟩ = false) := fun w2 hb => by
    have hclt : c < w.heap.size := (Array.getElem?_eq_some_iff.1 hc).1
    exact ⟨(hb.cell hclt).trans c0, (hb.cell hclt).trans c1, frozen_of_row _ c 1 _ 65 ((hb.block c hclt).trans hc)⟩
  clear hW hc hR hF
  generalize txV V (some (hl, f)) = t at *
  go_enter Tryd.func16, Tryd.ntmps16
  go_wp2_with (first
    | (go_at_call 18; refine (copen_some h).mono ?_; rintro e w1 ⟨rfl, hw⟩; subst w1)
    | (go_at_call 31; refine Calls.mono HC.out ?_; intro e w2 hp; obtain ⟨v, rfl, hb2, hrun⟩ := HR.out e w2 hp; have HRUN : Hid _ := hrun; clear hrun hp; obtain ⟨q0, q1, q2⟩ := HW.out w2 hb2)
    | (go_at_call 32; refine Calls.mono HRUN.out ?_; rintro e w5 ⟨cd, rfl, hcd⟩))
  go_ret
  exact ⟨cd, rfl, hcd⟩
/-! The laws' own: fresh, awake; a cache with what it ought to tell. -/
/-- Two blocks, held against each other. -/
theorem bytesF {w : World} {g1 g2 t1 t2 : Nat} {l m : List Nat} (h1 : Full w g1 t1 l) (h2 : Full w g2 t2 m) (hl : l.length = 512) (hm : m.length = 512) (b1 : ∀ i, l.getD i 0 < 256) (b2 : ∀ i, m.getD i 0 < 256) :
    Calls Tryd.prog 26 #[.slice (some ⟨g1, 0, none⟩) 512 512, .slice (some ⟨g2, 0, none⟩) 512 512] w fun e w' => e = .returned (.bool (decide (l = m))) ∧ Below w.heap.size w w' := by
  have := bytes_any (some ⟨g1, 0, none⟩) 512 l (some ⟨g2, 0, none⟩) 512 m w (h1.row b1) (h2.row b2) (by rw [hl]; decide) (by rw [hm]; decide)
  rw [hl, hm] at this
  refine this.mono ?_
  rintro e w' ⟨rfl, n, rfl⟩
  exact ⟨rfl, ⟨rfl, rfl, rfl, Nat.le_refl _, fun _ _ => rfl⟩⟩
/-- A cache on a journal on a device that is not cut, of 325 blocks; m: ops at most; V: what the journal tells; X: the transaction. -/
structure CS (B : Nat) (E : List Nat) (w1 w : World) (c dp m : Nat) (V : Nat → List Nat) (X : Tx) : Prop where
  fr : Fr B E w1 w
  cp : ∃ j d T, CP B E w c j dp d T false X ∧ Rest d T V ∧ d.n = 325 ∧ d.cut = false ∧ d.ops ≤ m
section
variable {B : Nat} {E : List Nat} {w1 w : World} {c dp m : Nat} {V : Nat → List Nat} {X : Tx}
theorem CS.below {w' : World} (h : CS B E w1 w c dp m V X) (hb : Below w.heap.size w w') : CS B E w1 w' c dp m V X := by
  obtain ⟨hF, j, d, T, h1, h2, h3, h4, h5⟩ := h
  exact ⟨hF.below hb, j, d, T, h1.below hb, h2, h3, h4, h5⟩
theorem CS.mono {m' : Nat} (h : CS B E w1 w c dp m V X) (hm : m ≤ m') : CS B E w1 w c dp m' V X := by
  obtain ⟨hF, j, d, T, h1, h2, h3, h4, h5⟩ := h
  exact ⟨hF, j, d, T, h1, h2, h3, h4, by omega⟩
theorem CS.tell (h : CS B E w1 w c dp m V X) {k : Nat} (h1 : 245 ≤ k) (h2 : k < 325) : (txV V X k).length = 512 ∧ ∀ i, (txV V X k).getD i 0 < 256 := by
  obtain ⟨hF, j, d, T, a1, a2, a3, a4, a5⟩ := h
  have hv := a2.slt a1.ok h1 (by omega)
  rcases X with _ | ⟨hl, f⟩
  · exact hv
  · obtain ⟨wb, _, _, hW⟩ := a1.cellsO
    unfold txV
    simp only
    split
    · rename_i q; exact hW.dat k q
    · exact hv
theorem CS.openC (h : CS B E w1 w c dp m V X) : Calls Tryd.prog 18 #[.pointer (some ⟨c, 0, none⟩)] w fun e w' => e = .returned (.bool X.isSome) ∧ w' = w := by
  obtain ⟨hF, j, d, T, h1, _⟩ := h
  exact copen_any h1
theorem CS.dirty (h : CS B E w1 w c dp m V X) : Calls Tryd.prog 19 #[.pointer (some ⟨c, 0, none⟩)] w fun e w' => e = .returned (.int .i64 (txn X : Int)) ∧ w' = w := by
  obtain ⟨hF, j, d, T, h1, _⟩ := h
  exact cdirty_any h1
theorem CS.begin (h : CS B E w1 w c dp m V none) : Calls Tryd.prog 12 #[.pointer (some ⟨c, 0, none⟩)] w fun e w' => e = .returned (.int .i64 0) ∧ CS B E w1 w' c dp m V tx0 := by
  obtain ⟨hF, j, d, T, h1, h2⟩ := h
  refine (cbegin_ok hF h1).mono ?_
  rintro e w' ⟨rfl, a, b⟩
  exact ⟨rfl, a, j, d, T, b, h2⟩
theorem CS.begin_no {hl : List Nat} {f : Nat → List Nat} (h : CS B E w1 w c dp m V (some (hl, f))) : Calls Tryd.prog 12 #[.pointer (some ⟨c, 0, none⟩)] w fun e w' => e = .returned (.int .i64 8) ∧ w' = w := by
  obtain ⟨hF, j, d, T, h1, h2⟩ := h
  exact cbegin_some h1
theorem CS.abort {hl : List Nat} {f : Nat → List Nat} (h : CS B E w1 w c dp m V (some (hl, f))) : Calls Tryd.prog 17 #[.pointer (some ⟨c, 0, none⟩)] w fun e w' => e = .returned (.int .i64 0) ∧ CS B E w1 w' c dp m V none := by
  obtain ⟨hF, j, d, T, h1, h2⟩ := h
  refine (cabort_ok hF h1).mono ?_
  rintro e w' ⟨rfl, a, b⟩
  exact ⟨rfl, a, j, d, T, b, h2⟩
theorem CS.abort_no (h : CS B E w1 w c dp m V none) : Calls Tryd.prog 17 #[.pointer (some ⟨c, 0, none⟩)] w fun e w' => e = .returned (.int .i64 8) ∧ w' = w := by
  obtain ⟨hF, j, d, T, h1, h2⟩ := h
  exact cabort_none h1
theorem CS.commit_no (h : CS B E w1 w c dp m V none) : Calls Tryd.prog 16 #[.pointer (some ⟨c, 0, none⟩)] w fun e w' => e = .returned (.int .i64 8) ∧ w' = w := by
  obtain ⟨hF, j, d, T, h1, h2⟩ := h
  exact ccommit_none h1
theorem CS.commit {hl : List Nat} {f : Nat → List Nat} (h : CS B E w1 w c dp m V (some (hl, f))) (hm : m ≤ 900000) : Calls Tryd.prog 16 #[.pointer (some ⟨c, 0, none⟩)] w fun e w' => e = .returned (.int .i64 0) ∧ CS B E w1 w' c dp (m + 395) (txV V (some (hl, f))) none := by
  obtain ⟨hF, j, d, T, h1, h2, h3, h4, h5⟩ := h
  refine (ccommit_ok hF h1 h2 (by omega)).mono ?_
  rintro e w' ⟨cd, rfl, q⟩
  rcases q with ⟨rfl, a, d', T', b, r, n⟩ | ⟨_, _, d', T', _, _, n, hcut⟩
  · exact ⟨rfl, a, j, d', T', b, r, by rw [n.n, h3], by rw [n.cut, h4], by have := n.ops; omega⟩
  · rw [n.cut, h4] at hcut; cases hcut
theorem CS.read (h : CS B E w1 w c dp m V X) (k : Nat) (h1 : 245 ≤ k) (h2 : k < 325) : Calls Tryd.prog 21 #[.pointer (some ⟨c, 0, none⟩), .int .i64 (k : Int)] w fun e w' => ∃ g ty, e = .returned (.tuple #[.slice (some ⟨g, 0, none⟩) 512 512, .int .i64 0]) ∧ Full w' g ty (txV V X k) ∧ w.heap.size ≤ g ∧ Below w.heap.size w w' := by
  obtain ⟨hF, j, d, T, a1, a2, a3, a4, a5⟩ := h
  exact cread_any a1 a2 k h1 (by omega)
theorem CS.write {hl : List Nat} {f : Nat → List Nat} (h : CS B E w1 w c dp m V (some (hl, f))) (k : Nat) (h1 : 245 ≤ k) (h2 : k < 325) (hf : fullB hl k = false) {g ty : Nat} {q : List Nat} (hg : Full w g ty q) (hq : q.length = 512) (hqb : ∀ i, q.getD i 0 < 256) :
    Calls Tryd.prog 13 #[.pointer (some ⟨c, 0, none⟩), .int .i64 (k : Int), .slice (some ⟨g, 0, none⟩) 512 512] w fun e w' => e = .returned (.int .i64 0) ∧ CS B E w1 w' c dp m V (some (addK hl k, updK f k q)) := by
  obtain ⟨hF, j, d, T, a1, a2, a3, a4, a5⟩ := h
  refine (cwrite_ok hF a1 a2 k h1 (by omega) hf hg hq hqb).mono ?_
  rintro e w' ⟨rfl, a, b⟩
  exact ⟨rfl, a, j, d, T, b, a2, a3, a4, a5⟩
theorem CS.write_big {hl : List Nat} {f : Nat → List Nat} (h : CS B E w1 w c dp m V (some (hl, f))) (k : Nat) (h1 : 245 ≤ k) (h2 : k < 325) (hf : fullB hl k = true) (a : Option Addr) (cap : Nat) :
    Calls Tryd.prog 13 #[.pointer (some ⟨c, 0, none⟩), .int .i64 (k : Int), .slice a 512 cap] w fun e w' => e = .returned (.int .i64 2) ∧ CS B E w1 w' c dp m V (some (hl, f)) := by
  obtain ⟨hF, j, d, T, a1, a2, a3, a4, a5⟩ := id h
  refine (cwrite_big hF a1 a2 k h1 (by omega) hf a cap).mono ?_
  rintro e w' ⟨rfl, a, b⟩
  exact ⟨rfl, a, j, d, T, b, a2, a3, a4, a5⟩
theorem CS.write_no (h : CS B E w1 w c dp m V none) (k : Int) (v : Value) : Calls Tryd.prog 13 #[.pointer (some ⟨c, 0, none⟩), .int .i64 k, v] w fun e w' => e = .returned (.int .i64 8) ∧ w' = w := by
  obtain ⟨hF, j, d, T, a1, _⟩ := h
  exact cwrite_none a1 k v
theorem CS.write_far {hl : List Nat} {f : Nat → List Nat} (h : CS B E w1 w c dp m V (some (hl, f))) (k : Int) (hk : 325 ≤ k) (v : Value) : Calls Tryd.prog 13 #[.pointer (some ⟨c, 0, none⟩), .int .i64 k, v] w fun e w' => e = .returned (.int .i64 1) ∧ CS B E w1 w' c dp m V (some (hl, f)) := by
  obtain ⟨hF, j, d, T, a1, a2, a3, a4, a5⟩ := id h
  refine (cwrite_far a1 k (by simp [hasJ, a3]; omega) v).mono ?_
  rintro e w' ⟨rfl, b⟩
  exact ⟨rfl, h.below b⟩
theorem CS.write_len {hl : List Nat} {f : Nat → List Nat} (h : CS B E w1 w c dp m V (some (hl, f))) (k : Nat) (h1 : 245 ≤ k) (h2 : k < 325) (a : Option Addr) (len cap : Nat) (hlen : ((len : Int) != 512) = true) : Calls Tryd.prog 13 #[.pointer (some ⟨c, 0, none⟩), .int .i64 (k : Int), .slice a len cap] w fun e w' => e = .returned (.int .i64 1) ∧ CS B E w1 w' c dp m V (some (hl, f)) := by
  obtain ⟨hF, j, d, T, a1, a2, a3, a4, a5⟩ := id h
  refine (cwrite_len a1 a2 k h1 (by omega) a len cap hlen).mono ?_
  rintro e w' ⟨rfl, b⟩
  exact ⟨rfl, h.below b⟩
end
/-- What fresh leaves. -/
def FreshPost (B : Nat) (E : List Nat) (w1 : World) (e : Ending) (w' : World) : Prop :=
  ∃ dp c, e = .returned (.tuple #[.pointer (some ⟨dp, 0, none⟩), .pointer (some ⟨c, 0, none⟩), .bool true]) ∧ CS B E w1 w' c dp 3 zs0 none
theorem fresh_any {B : Nat} {E : List Nat} {w1 w : World} (hF : Fr B E w1 w) : Calls Tryd.prog 10 #[] w (FreshPost B E w1) := by
  have HN : Hid _ := newF hF 325 (by omega) (by omega)
  obtain ⟨r1, r2, r3, r4⟩ := formatted_blank 325 (by omega)
  have HFM : Hid (∀ w' p, Fr B E w1 w' → DP B E w' p (blank 325) → Calls Tryd.prog 28 #[.pointer (some ⟨p, 0, none⟩)] w' fun e w'' => e = .returned (.int .i64 0) ∧ Fr B E w1 w'' ∧ DP B E w'' p (formatted (blank 325))) := fun w' p h1 h2 => format_ok h1 h2 (show 246 ≤ 325 by omega) rfl (show 0 + 2 ≤ _ by omega)
  have HO : Hid (∀ w' p, Fr B E w1 w' → DP B E w' p (formatted (blank 325)) → Calls Tryd.prog 23 #[.pointer (some ⟨p, 0, none⟩)] w' fun e w'' => ∃ j, e = .returned (.tuple #[.pointer (some ⟨j, 0, none⟩), .int .i64 0]) ∧ Fr B E w1 w'' ∧ JP B E w'' j p (formatted (blank 325)).tick.flush [] false ∧ w'.heap.size ≤ j) := fun w' p h1 h2 => open_ok h1 h2 r1 (on_uncut r3) (by rw [r4]; omega)
  have HR : Hid (Rest (formatted (blank 325)).tick.flush [] zs0) := ((Like.tick _).rest r1).flush
  clear r1 r2 r3 r4
  go_enter Tryd.func10, Tryd.ntmps10
  go_wp2_with (first
    | (go_at_call 27; refine Calls.mono HN.out ?_; rintro e w2 ⟨p, rfl, hF2, hD2, _, _⟩)
    | (go_at_call 28; refine (HFM.out _ _ hF2 hD2).mono ?_; rintro e w3 ⟨rfl, hF3, hD3⟩)
    | (go_at_call 23; refine (HO.out _ _ hF3 hD3).mono ?_; rintro e w4 ⟨j, rfl, hF4, hJ4, _⟩)
    | (go_at_call 25; refine (cnewF hF4 hJ4).mono ?_; rintro e w5 ⟨c, rfl, hF5, hC5, _⟩))
  go_ret3
  exact ⟨p, c, rfl, hF5, j, _, _, hC5, HR.out, rfl, rfl, Nat.le_refl _⟩
theorem awake_any {B : Nat} {E : List Nat} {w1 w : World} (hF : Fr B E w1 w) : Calls Tryd.prog 9 #[] w fun e w' => e = .returned (.bool true) ∧ Fr B E w1 w' := by
  have HF : Hid _ := fresh_any hF
  have e0 : zs0 300 = bb 0 := by decide +kernel
  clear hF
  go_enter Tryd.func9, Tryd.ntmps9
  go_wp2_with (first
    | (go_at_call 10; refine Calls.mono HF.out ?_; rintro e w2 ⟨dp, c, rfl, hS2⟩; have tok1 : True := trivial)
    | (go_at_call 12; refine (CS.begin hS2).mono ?_; rintro e w3 ⟨rfl, hS3⟩)
    | (go_at_call 14; have _t := tok1; refine (block_any 7 _).mono ?_; rintro e w4 ⟨g4, rfl, hg4, hge4, hb4⟩; have hS4 := hS3.below hb4; clear tok1 _t)
    | (go_at_call 13; refine (CS.write hS4 300 (by omega) (by omega) rfl hg4 (bb_len 7) (bb_lt 7)).mono ?_; rintro e w5 ⟨rfl, hS5⟩)
    | (go_at_call 18; refine hS5.openC.mono ?_; rintro e w6 ⟨rfl, hw⟩; subst w6)
    | (go_at_call 19; refine hS5.dirty.mono ?_; rintro e w6 ⟨rfl, hw⟩; subst w6)
    | (go_at_call 17; refine (CS.abort hS5).mono ?_; rintro e w7 ⟨rfl, hS7⟩)
    | (go_at_call 21; refine (hS7.read 300 (by omega) (by omega)).mono ?_; rintro e w8 ⟨g8, ty8, rfl, hg8, _, hb8⟩; have hS8 := hS7.below hb8)
    | (go_at_call 14; refine (block_any 0 _).mono ?_; rintro e w9 ⟨g9, rfl, hg9, _, hb9⟩; have hg8' := hg8.below hb9; have hS9 := hS8.below hb9; have hd1 : txV zs0 none 300 = bb 0 := e0; rw [hd1] at hg8')
    | (go_at_call 26; refine (bytesF hg8' hg9 (bb_len 0) (bb_len 0) (bb_lt 0) (bb_lt 0)).mono ?_; rintro e w10 ⟨rfl, hb10⟩; rw [decide_eq_true rfl]; have hS10 := hS9.below hb10)
    | (go_at_call 16; refine hS10.commit_no.mono ?_; rintro e w11 ⟨rfl, hw⟩; subst w11))
  go_ret
  exact ⟨rfl, hS10.fr⟩
end Go.Proofs.YtohncckmennfbaaDoor
