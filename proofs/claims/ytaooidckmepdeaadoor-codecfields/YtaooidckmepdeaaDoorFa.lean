/- CodecFields: plain. -/
import Derived.Test.YtaooidckmepdeaaDoorPm
namespace Go.Proofs.YtaooidckmepdeaaDoor
set_option linter.unusedSimpArgs false
set_option linter.unusedVariables false
open Go.RowKit
theorem xor_in (x : Int) : In64 (bits .xor .i64 x 8) := by
  have h : ∀ y : Int, In64 (IntKind.i64.wrap y) := fun y => by rw [IntKind.wrap_i64]; unfold In64; omega
  exact h _
/-- The request with one field changed. -/
def bx (b : Bd) (j : Nat) : Bd :=
  if j = 0 then setB b 1 (vt ((b 1).t ++ ⟨#[103]⟩)) else if j = 1 then setB b 14 (vn (bits .xor .i64 (b 14).n 8)) else if j = 2 then setB b 3 (vn (bits .xor .i64 (b 3).n 8)) else if j = 3 then setB b 10 (vn (bits .xor .i64 (b 10).n 8)) else if j = 4 then setB b 13 (vn (bits .xor .i64 (b 13).n 8)) else setB b 8 (vn (bits .xor .i64 (b 8).n 8))
theorem RqB.num {b : Bd} {c : Bool} (h : RqB b c) (f : Nat) (x : Int) (hx : In64 x) (hf : f ≤ 14) (h2 : 2 ≤ f) (h7 : f ≠ 7) (h11 : f ≠ 11) : RqB (setB b f (vn x)) c := by
  have ne : ∀ g, g ≠ f → setB b f (vn x) g = b g := fun g hg => by simp [setB, hg]
  have k0 : kd f = 0 := by unfold kd; rw [if_neg (by omega), if_neg h7, if_neg h11, if_neg (by omega), if_neg (by omega), if_neg (by omega)]
  refine ⟨⟨fun g hg => ?_, fun g hg => ?_⟩, ?_, ?_, ?_, ?_, ?_, ?_⟩
  · by_cases e : g = f
    · subst e
      rw [k0, show setB b g (vn x) g = vn x by simp [setB]]
      exact ⟨rfl, hx⟩
    · rw [ne g e]; exact h.v.1 g hg
  · rw [ne g (by omega)]; exact h.v.2 g hg
  · rw [ne 7 (by omega)]; exact h.c7
  · rw [ne 15 (by omega)]; exact h.z15
  · rw [ne 16 (by omega)]; exact h.z16
  · rw [ne 17 (by omega)]; exact h.z17
  · rw [ne 18 (by omega)]; exact h.z18
  · rw [ne 19 (by omega)]; exact h.z19
theorem RqB.txt {b : Bd} {c : Bool} (h : RqB b c) (s : ByteArray) : RqB (setB b 1 (vt s)) c := by
  have ne : ∀ g, g ≠ 1 → setB b 1 (vt s) g = b g := fun g hg => by simp [setB, hg]
  refine ⟨⟨fun g hg => ?_, fun g hg => ?_⟩, ?_, ?_, ?_, ?_, ?_, ?_⟩
  · by_cases e : g = 1
    · subst e; exact (rfl : vt s = _)
    · rw [ne g e]; exact h.v.1 g hg
  · rw [ne g (by omega)]; exact h.v.2 g hg
  · rw [ne 7 (by omega)]; exact h.c7
  · rw [ne 15 (by omega)]; exact h.z15
  · rw [ne 16 (by omega)]; exact h.z16
  · rw [ne 17 (by omega)]; exact h.z17
  · rw [ne 18 (by omega)]; exact h.z18
  · rw [ne 19 (by omega)]; exact h.z19
theorem BdOk.set {w : World} {b : Bd} {p : Pt} (h : BdOk w b p) (f : Nat) (v : Fv) (hf : f ≠ 7 ∧ f ≠ 11 ∧ f ≠ 17 ∧ f ≠ 18 ∧ f ≠ 19) (hv : v.t.size ≤ 9223372036854775807) : BdOk w (setB b f v) p := by
  have ne : ∀ g, g ≠ f → setB b f v g = b g := fun g hg => by simp [setB, hg]
  have e7 := ne 7 (by omega)
  have e11 := ne 11 (by omega)
  have e17 := ne 17 (by omega)
  have e18 := ne 18 (by omega)
  have e19 := ne 19 (by omega)
  exact ⟨h.tab, by rw [e11]; exact h.rs, by rw [e17]; exact h.nm, by rw [e18]; exact h.ct, h.bs, by rw [e19]; exact h.bb, by rw [e11]; exact h.lr, by rw [e17]; exact h.ln, by rw [e18]; exact h.lc, h.lb, by rw [e11]; exact h.rok, by rw [e17]; exact h.nok, (fun g => by
    by_cases e : g = f
    · subst e; rw [show setB b g v g = v by simp [setB]]; exact hv
    · rw [ne g e]; exact h.tx g), by rw [e7]; exact h.fl⟩
theorem bx_b {b : Bd} {c : Bool} (h : RqB b c) (j : Nat) : RqB (bx b j) c := by
  unfold bx
  split
  · exact h.txt _
  · repeat' split
    all_goals exact h.num _ _ (xor_in _) (by decide) (by decide) (by decide) (by decide)
theorem gsize (s : ByteArray) : (s ++ ⟨#[103]⟩).size = s.size + 1 := by rw [ByteArray.size_append]; rfl
theorem bx_ok {w : World} {b : Bd} {p : Pt} (h : BdOk w b p) (h1 : (b 1).t.size ≤ 140000) (j : Nat) : BdOk w (bx b j) p := by
  unfold bx
  split
  · exact h.set _ _ (by decide) (by show ((b 1).t ++ _).size ≤ _; rw [gsize]; omega)
  · repeat' split
    all_goals exact h.set _ _ (by decide) (by show (0 : Nat) ≤ _; omega)
theorem bx_11 (b : Bd) (j : Nat) : bx b j 11 = b 11 := by
  unfold bx
  repeat' split
  all_goals rfl
theorem bx_t {b : Bd} (h : ∀ g, (b g).t.size ≤ 140000) (j : Nat) : ∀ g, (bx b j g).t.size ≤ 200000 := by
  intro g
  have hg := h g
  have h1 := h 1
  have sn : ∀ f v, v.t.size ≤ 200000 → (setB b f v g).t.size ≤ 200000 := fun f v hv => by
    unfold setB
    split
    · exact hv
    · omega
  unfold bx
  split
  · exact sn _ _ (by show ((b 1).t ++ _).size ≤ _; rw [gsize]; omega)
  · repeat' split
    all_goals exact sn _ _ (by show (0 : Nat) ≤ _; omega)
/-- A field that the row does not name is refused. -/
theorem set_no {k i : Int} {b : Bd} {r : List Nat} (hr : rowQ k = some r) (f : Nat) (v : Fv) (hf : f < 20) (hm : f ∉ r) (hv : hasK (kd f) v = true) : (reqE k i (setB b f v)).isNone = true := by
  have : moreB (setB b f v) r = true := by
    unfold moreB
    refine any_range_true hf ?_
    rw [show setB b f v f = v by simp [setB], hv]
    simp [hm]
  unfold reqE msgE
  rw [hr]
  simp only [this, if_true]
  rfl
theorem bx_no {k i : Int} {b : Bd} {r : List Nat} (hr : rowQ k = some r) (hz : ∀ g, g ∉ r → b g = fz) (j : Nat) (hj : j < 6) (hm : [1, 14, 3, 10, 13, 8].getD j 0 ∉ r) : (reqE k i (bx b j)).isNone = true := by
  have num : ∀ f, f < 20 → f ∉ r → kd f = 0 → (reqE k i (setB b f (vn (bits .xor .i64 (b f).n 8)))).isNone = true := fun f h1 h2 h3 => by
    refine set_no hr f _ h1 h2 ?_
    rw [h3, hz f h2]
    decide
  match j, hj with
  | 0, _ =>
    refine set_no hr 1 _ (by decide) hm ?_
    show (!(((b 1).t ++ (⟨#[103]⟩ : ByteArray)).size == 0)) = true
    rw [gsize]; simp
  | 1, _ => exact num 14 (by decide) hm rfl
  | 2, _ => exact num 3 (by decide) hm rfl
  | 3, _ => exact num 10 (by decide) hm rfl
  | 4, _ => exact num 13 (by decide) hm rfl
  | 5, _ => exact num 8 (by decide) hm rfl
  | n + 6, h => exact absurd h (by omega)
def one (d : Bool) : Int := if d then 1 else 0
def cnt (D : Nat → Bool) : Nat → Int
  | 0 => 0
  | j + 1 => cnt D j + one (D j)
theorem one_le (d : Bool) : 0 ≤ one d ∧ one d ≤ 1 := by cases d <;> decide
theorem cnt_in (D : Nat → Bool) (j : Nat) : 0 ≤ cnt D j ∧ cnt D j ≤ j := by
  induction j with
  | zero => exact ⟨Int.le_refl _, Int.le_refl _⟩
  | succ j ih =>
    have := one_le (D j)
    simp only [cnt]
    omega
theorem cnt_three {k i : Int} {b : Bd} {L : List Nat} (hb : VB b) (h : reqE k i b = some L) : 3 ≤ cnt (fun j => (reqE k i (bx b j)).isNone) 6 := by
  obtain ⟨r, hr, hm⟩ : ∃ r, rowQ k = some r ∧ moreB b r = false := by
    unfold reqE msgE at h
    cases hr : rowQ k with
    | none => rw [hr] at h; cases h
    | some r =>
      rw [hr] at h
      simp only at h
      split at h
      · cases h
      · rename_i hm
        exact ⟨r, rfl, by simpa using hm⟩
  have hz := more_no hb hm
  have key := fun j hj hm => bx_no (i := i) hr hz j hj hm
  have o := fun j => one_le ((reqE k i (bx b j)).isNone)
  have c6 : cnt (fun j => (reqE k i (bx b j)).isNone) 6 = 0 + one ((reqE k i (bx b 0)).isNone) + one ((reqE k i (bx b 1)).isNone) + one ((reqE k i (bx b 2)).isNone) + one ((reqE k i (bx b 3)).isNone) + one ((reqE k i (bx b 4)).isNone) + one ((reqE k i (bx b 5)).isNone) := rfl
  have yes : ∀ j, (reqE k i (bx b j)).isNone = true → one ((reqE k i (bx b j)).isNone) = 1 := fun j q => by rw [q]; rfl
  have o0 := o 0
  have o1 := o 1
  have o2 := o 2
  have o3 := o 3
  have o4 := o 4
  have o5 := o 5
  rw [c6]
  have hk : k = 1 ∨ k = 2 ∨ k = 3 ∨ k = 4 ∨ k = 5 ∨ k = 6 ∨ k = 7 ∨ k = 8 := by
    unfold rowQ at hr
    by_cases e1 : k = 1
    · exact .inl e1
    by_cases e2 : k = 2
    · exact .inr (.inl e2)
    by_cases e3 : k = 3
    · exact .inr (.inr (.inl e3))
    by_cases e4 : k = 4
    · exact .inr (.inr (.inr (.inl e4)))
    by_cases e5 : k = 5
    · exact .inr (.inr (.inr (.inr (.inl e5))))
    by_cases e6 : k = 6
    · exact .inr (.inr (.inr (.inr (.inr (.inl e6)))))
    by_cases e7 : k = 7
    · exact .inr (.inr (.inr (.inr (.inr (.inr (.inl e7))))))
    by_cases e8 : k = 8
    · exact .inr (.inr (.inr (.inr (.inr (.inr (.inr e8))))))
    rw [if_neg e1, if_neg e2, if_neg e3, if_neg e4, if_neg e5, if_neg e6, if_neg e7, if_neg e8] at hr
    cases hr
  rcases hk with rfl | rfl | rfl | rfl | rfl | rfl | rfl | rfl
  · have er : r = [0, 3, 4, 5, 6, 7, 8] := (Option.some.inj (hr.symm.trans (show rowQ 1 = some [0, 3, 4, 5, 6, 7, 8] from rfl)))
    subst er
    have y0 := yes 0 (key 0 (by decide) (by decide))
    have y1 := yes 1 (key 1 (by decide) (by decide))
    have y3 := yes 3 (key 3 (by decide) (by decide))
    omega
  · have er : r = [0] := (Option.some.inj (hr.symm.trans (show rowQ 2 = some [0] from rfl)))
    subst er
    have y0 := yes 0 (key 0 (by decide) (by decide))
    have y1 := yes 1 (key 1 (by decide) (by decide))
    have y2 := yes 2 (key 2 (by decide) (by decide))
    omega
  · have er : r = [] := (Option.some.inj (hr.symm.trans (show rowQ 3 = some [] from rfl)))
    subst er
    have y0 := yes 0 (key 0 (by decide) (by decide))
    have y1 := yes 1 (key 1 (by decide) (by decide))
    have y2 := yes 2 (key 2 (by decide) (by decide))
    omega
  · have er : r = [0, 2, 9, 10, 11] := (Option.some.inj (hr.symm.trans (show rowQ 4 = some [0, 2, 9, 10, 11] from rfl)))
    subst er
    have y0 := yes 0 (key 0 (by decide) (by decide))
    have y1 := yes 1 (key 1 (by decide) (by decide))
    have y2 := yes 2 (key 2 (by decide) (by decide))
    omega
  · have er : r = [0, 2, 12, 13] := (Option.some.inj (hr.symm.trans (show rowQ 5 = some [0, 2, 12, 13] from rfl)))
    subst er
    have y0 := yes 0 (key 0 (by decide) (by decide))
    have y1 := yes 1 (key 1 (by decide) (by decide))
    have y2 := yes 2 (key 2 (by decide) (by decide))
    omega
  · have er : r = [0, 2, 14] := (Option.some.inj (hr.symm.trans (show rowQ 6 = some [0, 2, 14] from rfl)))
    subst er
    have y0 := yes 0 (key 0 (by decide) (by decide))
    have y2 := yes 2 (key 2 (by decide) (by decide))
    have y3 := yes 3 (key 3 (by decide) (by decide))
    omega
  · have er : r = [1, 0, 2, 12] := (Option.some.inj (hr.symm.trans (show rowQ 7 = some [1, 0, 2, 12] from rfl)))
    subst er
    have y1 := yes 1 (key 1 (by decide) (by decide))
    have y2 := yes 2 (key 2 (by decide) (by decide))
    have y3 := yes 3 (key 3 (by decide) (by decide))
    omega
  · have er : r = [1, 0, 2] := (Option.some.inj (hr.symm.trans (show rowQ 8 = some [1, 0, 2] from rfl)))
    subst er
    have y1 := yes 1 (key 1 (by decide) (by decide))
    have y2 := yes 2 (key 2 (by decide) (by decide))
    have y3 := yes 3 (key 3 (by decide) (by decide))
    omega
theorem encP_code {s : Ls} {w w' : World} {e : Ending} (h : EncP s w e w') : (∃ v, e = .returned (.tuple #[v, .int .i64 (one s.isNone)])) ∧ Below w.heap.size w w' := by
  obtain ⟨⟨v, z, rfl, h1, h2⟩, hb⟩ := h
  cases s with
  | none => obtain ⟨rfl, rfl⟩ := h2 rfl; exact ⟨⟨_, rfl⟩, hb⟩
  | some L => obtain ⟨rfl, _⟩ := h1 L rfl; exact ⟨⟨_, rfl⟩, hb⟩
end Go.Proofs.YtaooidckmepdeaaDoor
