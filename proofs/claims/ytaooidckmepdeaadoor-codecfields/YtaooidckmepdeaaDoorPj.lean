/- The document's Request: plain, and its state. -/
import Derived.Test.YtaooidckmepdeaaDoorPi
import Derived.Deep.CutRange
namespace Go.Proofs.YtaooidckmepdeaaDoor
set_option linter.unusedSimpArgs false
set_option linter.unusedVariables false
open Go.RowKit
/-- Only the fields of a row. -/
def bmix (b : Bd) (r : List Nat) : Bd := fun f => if f ∈ r then b f else fz
def cmix (c : Bool) (r : List Nat) : Bool := if 7 ∈ r then c else false
def smix (v : Value) (r : List Nat) : Value := if 11 ∈ r then v else .slice none 0 0
/-- The bag of the fields of a row. -/
def gmx (k i : Int) (b : Bd) (c : Bool) (v : Value) (r : List Nat) : Array Value := gbc k i (fun f => (bmix b r f).t) (bn (bmix b r)) (cmix c r) (smix v r) (.slice none 0 0) (.slice none 0 0) (.slice none 0 0)
theorem bn_fz (f : Nat) : (if f = 7 then (0 : Int) else fz.n) = 0 := by split <;> rfl
theorem gmx_nil (k i : Int) (b : Bd) (c : Bool) (v : Value) : gmx k i b c v [] = gbc k i (fun _ => ⟨#[]⟩) (fun _ => 0) false (.slice none 0 0) (.slice none 0 0) (.slice none 0 0) (.slice none 0 0) :=
  gbc_ext (fun f _ => rfl) (fun f _ => bn_fz f)
theorem mem_snoc {r : List Nat} {f g : Nat} : g ∈ r ++ [f] ↔ g ∈ r ∨ g = f := by simp
theorem gmx_text (k i : Int) (b : Bd) (c : Bool) (v : Value) (r : List Nat) (f : Nat) (hf : f < 2) (hn : (b f).n = 0) : (gmx k i b c v r).setIfInBounds (2 + f) (.string (b f).t) = gmx k i b c v (r ++ [f]) := by
  unfold gmx
  rw [gbc_setT _ _ _ _ _ _ _ _ _ f _ hf]
  have e1 : cmix c (r ++ [f]) = cmix c r := by unfold cmix; simp [mem_snoc, show ¬ (7 = f) from by omega]
  have e2 : smix v (r ++ [f]) = smix v r := by unfold smix; simp [mem_snoc, show ¬ (11 = f) from by omega]
  rw [e1, e2]
  refine gbc_ext (fun g hg => ?_) (fun g hg => ?_)
  · simp only [bmix, mem_snoc]
    by_cases e : g = f
    · subst e; simp
    · by_cases h : g ∈ r <;> simp [e, h]
  · simp only [bn, bmix, mem_snoc]
    by_cases e : g = f
    · subst e
      by_cases h : g ∈ r <;> simp [h, hn, fz]
    · by_cases h : g ∈ r <;> simp [e, h]
theorem gmx_num (k i : Int) (b : Bd) (c : Bool) (v : Value) (r : List Nat) (f : Nat) (hf : f < 20) (h2 : 2 ≤ f) (h7 : f ≠ 7) (h11 : f ≠ 11) : (gmx k i b c v r).setIfInBounds (4 + f) (.int .i64 (bn b f)) = gmx k i b c v (r ++ [f]) := by
  unfold gmx
  rw [gbc_setN _ _ _ _ _ _ _ _ _ f _ hf]
  have e1 : cmix c (r ++ [f]) = cmix c r := by unfold cmix; simp [mem_snoc, show ¬ (7 = f) from by omega]
  have e2 : smix v (r ++ [f]) = smix v r := by unfold smix; simp [mem_snoc, show ¬ (11 = f) from by omega]
  rw [e1, e2]
  refine gbc_ext (fun g hg => ?_) (fun g hg => ?_)
  · simp only [bmix, mem_snoc]
    have q : ¬ (g = f) := by omega
    simp [q]
  · simp only [bn, bmix, mem_snoc]
    by_cases e : g = f
    · subst e; simp [h7]
    · by_cases h : g ∈ r <;> simp [e, h]
theorem gmx_flag (k i : Int) (b : Bd) (c : Bool) (v : Value) (r : List Nat) : (gmx k i b c v r).setIfInBounds 24 (.bool c) = gmx k i b c v (r ++ [7]) := by
  unfold gmx
  rw [gbc_setC]
  have e1 : cmix c (r ++ [7]) = c := by unfold cmix; simp
  have e2 : smix v (r ++ [7]) = smix v r := by unfold smix; simp
  rw [e1, e2]
  refine gbc_ext (fun g hg => ?_) (fun g hg => ?_)
  · simp only [bmix, mem_snoc]
    have q : ¬ (g = 7) := by omega
    simp [q]
  · simp only [bn, bmix, mem_snoc]
    by_cases e : g = 7
    · simp [e]
    · by_cases h : g ∈ r <;> simp [e, h]
theorem gmx_recs (k i : Int) (b : Bd) (c : Bool) (v : Value) (r : List Nat) (hn : (b 11).n = 0) : (gmx k i b c v r).setIfInBounds 25 v = gmx k i b c v (r ++ [11]) := by
  unfold gmx
  rw [gbc_setR]
  have e1 : cmix c (r ++ [11]) = cmix c r := by unfold cmix; simp
  have e2 : smix v (r ++ [11]) = v := by unfold smix; simp
  rw [e1, e2]
  refine gbc_ext (fun g hg => ?_) (fun g hg => ?_)
  · simp only [bmix, mem_snoc]
    have q : ¬ (g = 11) := by omega
    simp [q]
  · simp only [bn, bmix, mem_snoc]
    by_cases e : g = 11
    · subst e
      by_cases h : 11 ∈ r <;> simp [h, hn, fz]
    · by_cases h : g ∈ r <;> simp [e, h]
/-- A bag's request. -/
theorem rqx_mix (k i : Int) (b : Bd) (c : Bool) (ra : Option Addr) (rc : Nat) (r : List Nat) : ∃ ra' rc', smix (.slice ra (b 11).rs.length rc) r = .slice ra' (bmix b r 11).rs.length rc' ∧ rqx k i (fun f => (bmix b r f).t) (bn (bmix b r)) (cmix c r) ra' (bmix b r 11).rs.length rc' = rqc k i (bmix b r) (cmix c r) ra' rc' ∧ (11 ∈ r → ra' = ra) := by
  by_cases h : 11 ∈ r
  · exact ⟨ra, rc, by simp [smix, bmix, h], rfl, fun _ => rfl⟩
  · exact ⟨none, 0, by simp [smix, bmix, h, fz], rfl, fun q => absurd q h⟩
theorem mix_same {b : Bd} {c : Bool} {r : List Nat} {k i : Int} (hb : RqB b c) : SQ k i (bmix b r) (cmix c r) k i b c ↔ moreB b r = false := by
  have hv := hb.v
  constructor
  · rintro ⟨_, _, t0, t1, n2, n3, n4, n5, n6, hc, n8, n9, n10, n12, n13, n14, h11⟩
    apply more_yes
    intro g hg
    have hz : bmix b r g = fz := by simp [bmix, hg]
    by_cases h20 : g < 20
    · refine (hasK_iff _ (kd_cases g) _ (hv.1 g h20)).1 ?_
      have tx : ∀ f, f ∉ r → (bmix b r f).t = (b f).t → hasK 2 (b f) = false := fun f h1 h2 => by
        have : bmix b r f = fz := by simp [bmix, h1]
        rw [this] at h2
        show (!((b f).t.size == 0)) = false
        rw [← h2]; rfl
      have nx : ∀ f, f ∉ r → (bmix b r f).n = (b f).n → hasK 0 (b f) = false := fun f h1 h2 => by
        have : bmix b r f = fz := by simp [bmix, h1]
        rw [this] at h2
        show (!((b f).n == 0)) = false
        rw [← h2]; rfl
      have zx : ∀ f, b f = fz → hasK (kd f) (b f) = false := fun f h1 => by
        rw [h1]; exact (hasK_iff _ (kd_cases f) _ (VK_fz f)).2 rfl
      match g, h20 with
      | 0, _ => exact tx 0 hg t0
      | 1, _ => exact tx 1 hg t1
      | 2, _ => exact nx 2 hg n2
      | 3, _ => exact nx 3 hg n3
      | 4, _ => exact nx 4 hg n4
      | 5, _ => exact nx 5 hg n5
      | 6, _ => exact nx 6 hg n6
      | 7, _ =>
        have hc' : c = false := by rw [← hc]; simp [cmix, hg]
        show (!((b 7).n == 0)) = false
        rw [hb.c7, hc']; rfl
      | 8, _ => exact nx 8 hg n8
      | 9, _ => exact nx 9 hg n9
      | 10, _ => exact nx 10 hg n10
      | 11, _ =>
        rw [hz] at h11
        show decide (0 < (b 11).rs.length) = false
        rw [← h11]; rfl
      | 12, _ => exact nx 12 hg n12
      | 13, _ => exact nx 13 hg n13
      | 14, _ => exact nx 14 hg n14
      | 15, _ => exact zx 15 hb.z15
      | 16, _ => exact zx 16 hb.z16
      | 17, _ => exact zx 17 hb.z17
      | 18, _ => exact zx 18 hb.z18
      | 19, _ => exact zx 19 hb.z19
      | n + 20, h => exact absurd h (by omega)
    · exact hv.2 g (by omega)
  · intro hm
    have e : bmix b r = b := mix_all (more_no hv hm)
    have ec : cmix c r = c := by
      unfold cmix
      split
      · rfl
      · rename_i h7
        have := hb.c7
        rw [more_no hv hm 7 h7] at this
        cases c
        · rfl
        · exact absurd this (by decide)
    rw [e, ec]
    exact ⟨rfl, rfl, rfl, rfl, rfl, rfl, rfl, rfl, rfl, rfl, rfl, rfl, rfl, rfl, rfl, rfl, rfl⟩
theorem box_keep' {x y : World} {B : Nat} {o : Obj} (h : x.heap[B]? = some o) (hb : Below x.heap.size x y) : y.heap[B]? = some o := (hb.block _ (Array.getElem?_eq_some_iff.1 h).1).trans h
theorem PnS.other {w0 x : World} {P X off : Nat} {st : Ls} {N : Nat} {v : Value} {cs : Array Value} (h : PnS w0 P x st N) (hne : P ≠ X) (hx : x.heap[X]? = some (.cells cs 71 (0, 0))) (hX : w0.heap.size ≤ X) : PnS w0 P (x.setCell ⟨X, off, none⟩ v) st N := by
  obtain ⟨u, l, hp, ho, r⟩ := h.ex
  exact ⟨⟨u, l, (heap_setCell_other x ⟨X, off, none⟩ P v hne).trans hp, own_setCell ho (own_box ho hx (by decide)), r⟩, h.bel.setCell (p := ⟨X, off, none⟩) hX _, h.low⟩
theorem WBox.keep {w w' : World} {a : Option Addr} {r : List Nat} (h : WBox w a r) (hk : ∀ (g : Nat) (cs : Array Value), w.heap[g]? = some (Obj.cells cs 82 (0, 0)) → w'.heap[g]? = some (Obj.cells cs 82 (0, 0))) : WBox w' a r := by
  rcases h with e | ⟨g, cs, e, hx, hc⟩
  · exact .inl e
  · exact .inr ⟨g, cs, e, hk g cs hx, hc⟩
/-- The state of the document's Request: boxes of the request, of its bag, of the bag of the row's fields; the row; the pen. -/
structure RQS (w : World) (X4 X5 P : Nat) (RQ GF GJ : Array Value) (ga : Option Addr) (r : List Nat) (st : Ls) (N : Nat) (x : World) : Prop where
  h0 : x.heap[w.heap.size]? = some (.cells RQ 26 (0, 0))
  h4 : x.heap[X4]? = some (.cells GF 71 (0, 0))
  h5 : x.heap[X5]? = some (.cells GJ 71 (0, 0))
  hr : WBox x ga r
  pen : PnS w P x st N
theorem RQS.pens {w x x' : World} {X4 X5 P : Nat} {RQ GF GJ : Array Value} {ga : Option Addr} {r : List Nat} {st st' : Ls} {N N' : Nat} (h : RQS w X4 X5 P RQ GF GJ ga r st N x) (hk : KeepT P x x') (hp : PnS w P x' st' N') : RQS w X4 X5 P RQ GF GJ ga r st' N' x' := by
  obtain ⟨v, l, hx, _⟩ := h.pen.ex
  have ne : ∀ g cs t, t ≠ 79 → x.heap[g]? = some (.cells cs t (0, 0)) → g ≠ P := by
    rintro g cs t ht hg rfl
    rw [hx] at hg
    injection hg with hg
    injection hg with _ hg _
    exact ht hg.symm
  exact ⟨hk.box h.h0 (ne _ _ _ (by decide) h.h0) (by decide), hk.box h.h4 (ne _ _ _ (by decide) h.h4) (by decide), hk.box h.h5 (ne _ _ _ (by decide) h.h5) (by decide), WBox.keep h.hr (fun g cs hg => hk.box hg (ne _ _ _ (by decide) hg) (by decide)), hp⟩
theorem RQS.put {w x : World} {X4 X5 P : Nat} {RQ GF GJ : Array Value} {ga : Option Addr} {r : List Nat} {st : Ls} {N : Nat} (h : RQS w X4 X5 P RQ GF GJ ga r st N x) (h45 : X4 ≠ X5) (hX : w.heap.size < X5) (off : Nat) (v : Value) : RQS w X4 X5 P RQ GF (GJ.setIfInBounds off v) ga r st N (x.setCell ⟨X5, off, none⟩ v) := by
  have hP : P ≠ X5 := by
    rintro rfl
    obtain ⟨u, l, hx, _⟩ := h.pen.ex
    have := h.h5
    rw [hx] at this
    injection this with this
    injection this with _ this _
    exact absurd this (by decide)
  have oth : ∀ g, g ≠ X5 → (x.setCell ⟨X5, off, none⟩ v).heap[g]? = x.heap[g]? := fun g hg => heap_setCell_other x ⟨X5, off, none⟩ g v hg
  refine ⟨(oth _ (by omega)).trans h.h0, (oth _ h45).trans h.h4, ?_, WBox.keep h.hr (fun g cs hg => (oth g ?_).trans hg), h.pen.other hP h.h5 (by omega)⟩
  · rw [setCell_heap h.h5]
  · rintro rfl
    have := h.h5
    rw [hg] at this
    injection this with this
    injection this with _ this _
    exact absurd this (by decide)
theorem RQS.below {w x x' : World} {X4 X5 P : Nat} {RQ GF GJ : Array Value} {ga : Option Addr} {r : List Nat} {st : Ls} {N : Nat} (h : RQS w X4 X5 P RQ GF GJ ga r st N x) (hb : Below x.heap.size x x') : RQS w X4 X5 P RQ GF GJ ga r st N x' :=
  ⟨box_keep' h.h0 hb, box_keep' h.h4 hb, box_keep' h.h5 hb, WBox.keep h.hr (fun g cs hg => box_keep' hg hb), h.pen.below hb⟩
end Go.Proofs.YtaooidckmepdeaaDoor
