/- writeTable, its two steps; turn: another table holds for good. -/
import Derived.Test.YtohncckmennfbaaDoorJg
namespace Go.Proofs.YtohncckmennfbaaDoor
set_option linter.unusedSimpArgs false
set_option linter.unusedVariables false
open Go.RowKit Go.MapKept Go.Proofs
theorem enters34 : Enters Tryd.prog 39 := enters_of Tryd.func39 (by kernel_rfl) rfl
theorem enters68 : Enters Tryd.prog 69 := enters_of Tryd.func69 (by kernel_rfl) rfl
def wtV (dp b : Nat) : Array Value := #[.func (.func 69) #[] #[.pointer (some ⟨b, 0, none⟩), .pointer (some ⟨b + 1, 0, none⟩)], .func (.func 39) #[.pointer (some ⟨dp, 0, none⟩)] #[]]
def wtW (w : World) (dp : Nat) (r : Option Nat) : World := ((w.alloc (.cells #[.pointer (some ⟨dp, 0, none⟩)] 24)).alloc (.cells #[.map r] 77)).alloc (.cells (wtV dp w.heap.size) 111)
theorem wtable_any (dp : Nat) (r : Option Nat) (w : World) :
    Calls Tryd.prog 48 #[.pointer (some ⟨dp, 0, none⟩), .map r] w fun e w' => e = .returned (.slice (some ⟨w.heap.size + 2, 0, none⟩) 2 2) ∧ w' = wtW w dp r := by
  have hmf : ∀ (fn : Fn) (first cap : Array Value) (w : World), (Instr.makeFunc fn first cap).run Tryd.prog w = .ok (.func fn first cap) w := fun _ _ _ _ => rfl
  go_enter Tryd.func48, Tryd.ntmps48
  go_wp2
  go_ret
  exact ⟨rfl, rfl⟩
theorem wtW_facts (w : World) (dp : Nat) (r : Option Nat) : Below w.heap.size w (wtW w dp r) ∧ (wtW w dp r).heap.size = w.heap.size + 3 ∧ (wtW w dp r).cell? ⟨w.heap.size, 0, none⟩ = some (.pointer (some ⟨dp, 0, none⟩)) ∧ (wtW w dp r).cell? ⟨w.heap.size + 1, 0, none⟩ = some (.map r) ∧
    ∀ i, (wtW w dp r).cell? ⟨w.heap.size + 2, i, none⟩ = (wtV dp w.heap.size)[i]? := by
  have b1 : Below w.heap.size w (w.alloc (.cells #[.pointer (some ⟨dp, 0, none⟩)] 24)) := (Below.refl _ _).alloc (Nat.le_refl _) _
  have b2 : Below w.heap.size w ((w.alloc (.cells #[.pointer (some ⟨dp, 0, none⟩)] 24)).alloc (.cells #[.map r] 77)) := b1.alloc b1.size _
  have s1 : (w.alloc (.cells #[.pointer (some ⟨dp, 0, none⟩)] 24)).heap.size = w.heap.size + 1 := by show (w.heap.push _).size = _; simp
  have s2 : ((w.alloc (.cells #[.pointer (some ⟨dp, 0, none⟩)] 24)).alloc (.cells #[.map r] 77)).heap.size = w.heap.size + 2 := by show ((w.heap.push _).push _).size = _; simp
  refine ⟨b2.alloc b2.size _, by show (((w.heap.push _).push _).push _).size = _; simp, ?_, ?_, ?_⟩
  · have h : (wtW w dp r).heap[w.heap.size]? = some (.cells #[.pointer (some ⟨dp, 0, none⟩)] 24) := by
      unfold wtW
      rw [Below.heap_alloc _ _ _ (by rw [s2]; omega), Below.heap_alloc _ _ _ (by rw [s1]; omega)]
      exact heap_alloc_new w _
    rw [cell_of_row _ _ _ _ _ _ h]; rfl
  · have h : (wtW w dp r).heap[w.heap.size + 1]? = some (.cells #[.map r] 77) := by
      unfold wtW
      rw [Below.heap_alloc _ _ _ (by rw [s2]; omega)]
      have := heap_alloc_new (w.alloc (.cells #[.pointer (some ⟨dp, 0, none⟩)] 24)) (.cells #[.map r] 77)
      rw [s1] at this
      exact this
    rw [cell_of_row _ _ _ _ _ _ h]; rfl
  · intro i
    have h : (wtW w dp r).heap[w.heap.size + 2]? = some (.cells (wtV dp w.heap.size) 111) := by
      have := heap_alloc_new ((w.alloc (.cells #[.pointer (some ⟨dp, 0, none⟩)] 24)).alloc (.cells #[.map r] 77)) (.cells (wtV dp w.heap.size) 111)
      rw [s2] at this
      exact this
    rw [cell_of_row _ _ _ _ _ _ h]
/-- The two steps of a table, over a journal at rest. -/
theorem wt_chain {B : Nat} {E : List Nat} {w2 : World} {j dp db vb : Nat} {d : Dv} {T T' : List (List Nat)} {s t : Nat → List Nat} {r : Option Nat} {off : Bool} (hdb : db ∈ E) (hvb : vb ∈ E) (c1 : w2.cell? ⟨db, 0, none⟩ = some (.pointer (some ⟨dp, 0, none⟩))) (c2 : w2.cell? ⟨vb, 0, none⟩ = some (.map r))
    (hT : ∀ w, Fr B E w2 w → TabArg d.n w (.map r) T') (hR : Rest d T s) (hY : Ready d T' t) (ho : d.ops + 2 ≤ 1000000) :
    Chain (Fr B E w2) (fun w => Fr B E w2 w ∧ ∃ d', JP B E w j dp d' T off ∧ Safe d' s t ∧ Next d d' 2 ∧ d'.cut = true)
      [.func (.func 69) #[] #[.pointer (some ⟨db, 0, none⟩), .pointer (some ⟨vb, 0, none⟩)], .func (.func 39) #[.pointer (some ⟨dp, 0, none⟩)] #[]]
      (fun w => JP B E w j dp d T off) (fun w => ∃ d', JP B E w j dp d' T off ∧ Rest d' T' t ∧ Next d d' 2) := by
  have h0 : 0 < d.n := by have := hR.ph.n246; omega
  refine .cons (Q := fun w => JP B E w j dp (d.tick.add 0 (tabL T')) T off) ⟨69, _, _, rfl, enters68, fun w hF hP => ?_⟩ (.cons (Q := fun w => ∃ d', JP B E w j dp d' T off ∧ Rest d' T' t ∧ Next d d' 2) ⟨39, _, _, rfl, enters34, fun w hF hP => ?_⟩ (.nil fun _ _ h => h))
  · obtain ⟨FP, ⟨F, lb, rfl, hd, hj, h1, h2⟩, hFP⟩ := hP
    refine (wt1_any hd ((hF.box hdb).trans c1) ((hF.box hvb).trans c2) ⟨r, rfl⟩ (hT w hF) hF.tab (by omega)).mono ?_
    rintro e w' ⟨rfl, F', hd', hk, hg⟩
    obtain ⟨g1, g2⟩ := JP.step hF hj h1 h2 hFP hd' hk hg
    cases hon : d.on with
    | true =>
      rw [show (0 : Int) = ((0 : Nat) : Int) from rfl, wrote_on hon h0 (tabL_len _)] at g2
      exact ⟨_, rfl, .inl ⟨by rw [show (0 : Int) = ((0 : Nat) : Int) from rfl, wcode_on hon h0]; rfl, g1, g2⟩⟩
    | false =>
      rw [wrote_off hon] at g2
      exact ⟨_, rfl, .inr ⟨wcode_off hon, g1, _, g2, (Like.tick d).safe (hR.safe t), (Next.tick d).mono (by omega), show d.cut = true from off_cut hon⟩⟩
  · obtain ⟨FP, ⟨F, lb, rfl, hd, hj, h1, h2⟩, hFP⟩ := hP
    refine (flushD hd (by show d.ops + 1 < _; omega)).mono ?_
    rintro e w' ⟨rfl, F', hd', hk, hg⟩
    obtain ⟨g1, g2⟩ := JP.step hF hj h1 h2 hFP hd' hk hg
    have hR' := (Like.tick d).rest hR
    have hY' := (Like.tick d).ready hY
    cases hon : (d.tick.add 0 (tabL T')).on with
    | true =>
      rw [flushed_on hon] at g2
      refine ⟨_, rfl, .inl ⟨by simp, g1, _, g2, ?_, ?_⟩⟩
      · have := turn_rest hR' hY'
        exact ⟨⟨this.ph.n246, this.ph.good, this.ph.tab, this.ph.tab0, this.ph.view⟩, this.none⟩
      · exact (Next.add d 0 _).trans (Next.flush _) (by omega)
    | false =>
      rw [flushed_off hon] at g2
      refine ⟨_, rfl, .inr ⟨by simp, g1, _, g2, (Like.tick _).safe (turn_safe hR' hY'), (Next.add d 0 _).trans (Next.tick _) (by omega), ?_⟩⟩
      exact show (d.tick.add 0 (tabL T')).cut = true from off_cut hon
/-- What turn needs to know of the stores at its end. -/
theorem turn_store {B : Nat} {E : List Nat} {w1 w : World} {j dp lb' : Nat} {d : Dv} {T T' : List (List Nat)} {m : Nat} (hF : Fr B E w1 w) (hJ : JP B (lb' :: E) w j dp d T false) (hM : MapIs w lb' mkP (lv T') m) (hb : B ≤ lb' ∧ lb' ∉ E) (h4 : T'.length ≤ 4) :
    let w' := (w.setCell ⟨j, 1, none⟩ (.map (some lb'))).setCell ⟨j, 2, none⟩ (.int .i64 (T'.length : Int))
    Fr B E w1 w' ∧ JP B E w' j dp d T' false := by
  obtain ⟨FP, ⟨F, lb, rfl, hd, hj, h1, h2⟩, hFP⟩ := hJ
  have hjE := hFP j (by simp)
  have hne : lb' ≠ j := fun e => hjE.2 (by rw [e]; simp)
  have k : Keeps [j] w ((w.setCell ⟨j, 1, none⟩ (.map (some lb'))).setCell ⟨j, 2, none⟩ (.int .i64 (T'.length : Int))) := ((Keeps.refl _ _).setCell _ _ (by simp)).setCell _ _ (by simp)
  refine ⟨hF.keeps k (fun x hx => by simp at hx; subst hx; exact ⟨hjE.1, fun q => hjE.2 (by simp [q])⟩), _, ⟨F, lb', rfl, hd.keeps k (fun x hx q => by simp at q; exact h1 (q ▸ hx)), ⟨?_, ⟨m, hM.blk (k.block _ hM.lt (by simpa using hne))⟩, h4⟩, h1, fun q => (hFP lb' (by simp [q])).2 (by simp)⟩, fun x hx => ?_⟩
  · have e1 := heap_setCell_same w j 1 (jcells dp lb T false) 79 (.map (some lb')) hj.cells
    rw [heap_setCell_same _ _ _ _ _ _ e1]
    simp [jcells]
  · rcases List.mem_cons.1 hx with rfl | hx
    · exact ⟨hjE.1, fun q => hjE.2 (by simp [q])⟩
    · rcases List.mem_cons.1 hx with rfl | hx
      · exact hb
      · have := hFP x (by simp [hx])
        exact ⟨this.1, fun q => this.2 (by simp [q])⟩
set_option maxRecDepth 100000 in
theorem turn_any {B : Nat} {E : List Nat} {w1 w : World} {j dp lb' : Nat} {d : Dv} {T T' : List (List Nat)} {s t : Nat → List Nat} {m : Nat} (hF : Fr B E w1 w) (hJ : JP B (lb' :: E) w j dp d T false) (hM : MapIs w lb' mkP (lv T') m) (hb : B ≤ lb' ∧ lb' ∉ E)
    (hR : Rest d T s) (hY : Ready d T' t) (ho : d.ops + 2 ≤ 1000000) :
    Calls Tryd.prog 76 #[.pointer (some ⟨j, 0, none⟩), .map (some lb'), .int .i64 (T'.length : Int)] w
      (Ans (fun w' => Fr B E w1 w' ∧ ∃ d', JP B E w' j dp d' T' false ∧ Rest d' T' t ∧ Next d d' 2) (fun w' => Fr B E w1 w' ∧ ∃ d' T'', JP B E w' j dp d' T'' false ∧ Safe d' s t ∧ Next d d' 2 ∧ d'.cut = true)) := by
  obtain ⟨f1, f2, f3, f4, f5⟩ := wtW_facts w dp (some lb')
  have hlb : lb' < w.heap.size := hM.lt
  have hEw := hF.ltw
  have hBw : B ≤ w.heap.size := Nat.le_trans hF.big hF.size
  have hF2 : Fr B (w.heap.size :: (w.heap.size + 1) :: (w.heap.size + 2) :: lb' :: E) (wtW w dp (some lb')) (wtW w dp (some lb')) :=
    Fr.start (fun x hx => by
      rw [f2]
      simp only [List.mem_cons] at hx
      rcases hx with rfl | rfl | rfl | rfl | hx
      all_goals first | omega | (have := hEw x hx; omega)) (by rw [f2]; omega) hF.pos (hF.below f1).tab
  have hM2 : ∀ w', Fr B (w.heap.size :: (w.heap.size + 1) :: (w.heap.size + 2) :: lb' :: E) (wtW w dp (some lb')) w' → MapIs w' lb' mkP (lv T') m := fun w' h => (hM.below f1).blk (h.same lb' (by simp))
  have hJ2 : JP B (w.heap.size :: (w.heap.size + 1) :: (w.heap.size + 2) :: lb' :: E) (wtW w dp (some lb')) j dp d T false :=
    (hJ.ext (fun x hx => by
      simp only [List.mem_cons] at hx ⊢
      rcases hx with rfl | rfl | rfl | rfl | hx
      · exact .inr (Nat.le_refl _)
      · exact .inr (by omega)
      · exact .inr (by omega)
      · exact .inl (.inl rfl)
      · exact .inl (.inr hx))).below f1
  have hch := wt_chain (j := j) (T := T) (T' := T') (s := s) (t := t) (off := false) (w2 := wtW w dp (some lb')) (B := B) (E := w.heap.size :: (w.heap.size + 1) :: (w.heap.size + 2) :: lb' :: E) (db := w.heap.size) (vb := w.heap.size + 1) (r := some lb') (by simp) (by simp) f3 f4
    (fun w' h => .inr ⟨lb', m, rfl, hM2 w' h, hY.good⟩) hR hY ho
  have hin := inTurn_any _ _ _ _ _ (w.heap.size + 2) 2 (fun w' h i v hv => by
    rw [h.box (by simp), f5 i]
    simpa [wtV] using hv) (by simp) hch _ hF2 hJ2
  have HI : Hid _ := hin
  have HW := wtable_any dp (some lb') w
  obtain ⟨FP, hJo, hFP⟩ := id hJ
  obtain ⟨F, lb, rfl, hd, hj, h1, h2⟩ := id hJo
  obtain ⟨c0, _⟩ := hj.c
  have h4 := hY.good.four
  clear hch hin hd h1 h2
  go_enter Tryd.func76, Tryd.ntmps76
  go_wp2_with (go_at_call 48; refine HW.mono ?_; rintro e w2 ⟨rfl, rfl⟩)
  refine Calls.mono HI.out ?_
  rintro e w3 ⟨c, rfl, hc⟩
  rcases hc with ⟨rfl, g1, d', g2, g3, g4⟩ | ⟨rfl, g1, d', g2, g3, g4, g5⟩
  · have hFr3 : Fr B E w1 w3 := (hF.below f1).trans g1 (by simp; intro x hx; simp [hx])
    have hjl : JP B (lb' :: E) w3 j dp d' T false := g2.ext (fun x hx => .inl (by simp at hx ⊢; rcases hx with rfl | hx <;> simp [*]))
    have hst := turn_store hFr3 hjl (hM2 w3 g1) hb h4
    obtain ⟨FP3, ⟨F3, lb3, rfl, hd3, hj3, _⟩, _⟩ := id hjl
    obtain ⟨q0, q1, q2, q3⟩ := hj3.c
    have qf := fun i => frozen_of_row w3 j i _ 79 hj3.cells
    clear hd3 hj3 hjl hFr3 g1 g2
    go_wp2
    go_ret
    exact ⟨0, rfl, .inl ⟨rfl, hst.1, d', hst.2, g3, g4⟩⟩
  · have hFr3 : Fr B E w1 w3 := (hF.below f1).trans g1 (by simp; intro x hx; simp [hx])
    have hjl : JP B E w3 j dp d' T false := g2.ext (fun x hx => .inl (by simp [hx]))
    clear g1 g2
    go_wp2
    go_ret
    exact ⟨9, rfl, .inr ⟨rfl, hFr3, d', T, hjl, g3, g4, g5⟩⟩
end Go.Proofs.YtohncckmennfbaaDoor
