/- A reader: number, text. -/
import Derived.Test.YtaooidckmepdeaaDoorUnv
import Derived.Test.YtaooidckmepdeaaDoorStr
namespace Go.Proofs.YtaooidckmepdeaaDoor
set_option linter.unusedSimpArgs false
set_option linter.unusedVariables false
open Go.RowKit
theorem uv_bd (l : List Nat) : ∀ (i v : Nat), v < 128 ^ i → i ≤ 9 → (uv l i v).1 ≤ 18446744073709551615 ∧ (uv l i v).2 ≤ i + l.length := by
  induction l with
  | nil => intro i v _ _; simp [uv]
  | cons c r ih =>
    intro i v hv hi
    rw [uv_cons]
    split
    · simp
    · rename_i h9
      split
      · rename_i h128
        have hi9 : i ≠ 9 := fun e => h9 ⟨e, by omega⟩
        have := ih (i + 1) (v + c % 128 * 128 ^ i) (grow7 v c i hv) (by omega)
        simp only [List.length_cons]
        omega
      · rename_i h128
        split
        · simp
        · have hg := grow7 v c i hv
          simp only [List.length_cons]
          refine ⟨?_, by omega⟩
          by_cases e : i = 9
          · subst e
            have hc : c ≤ 1 := by
              have : ¬ 1 < c := fun q => h9 ⟨rfl, q⟩
              omega
            have : c % 128 * 128 ^ 9 ≤ 1 * 128 ^ 9 := Nat.mul_le_mul_right _ (by omega)
            omega
          · have := p128 (i + 1) (by omega)
            omega
def numV (l : List Nat) : Nat := (uv l 0 0).1
def numN (l : List Nat) : Nat := (uv l 0 0).2
theorem numV_le (l : List Nat) : numV l ≤ 18446744073709551615 := (uv_bd l 0 0 (by simp) (by omega)).1
theorem numN_le (l : List Nat) : numN l ≤ l.length := by
  have := (uv_bd l 0 0 (by simp) (by omega)).2
  unfold numN
  omega
/-- What is left behind n bytes. -/
def cutA (a : Option Addr) (cap n : Nat) : Option Addr := if cap = n then a else a.map (fun x => x.add n)
theorem row_cut {w : World} {a : Option Addr} {l : List Nat} (cap n : Nat) (hr : Row w a l) (hl : l.length ≤ cap) : Row w (cutA a cap n) (l.drop n) := by
  unfold cutA
  intro i hi
  have hi2 : n + i < l.length := by simp at hi; omega
  obtain ⟨b, off, rfl, hc, hl2⟩ := hr (n + i) hi2
  rw [if_neg (by omega)]
  have e : (l.drop n).getD i 0 = l.getD (n + i) 0 := by simp [List.getD, List.getElem?_drop]
  rw [e]
  exact ⟨b, off + n, by simp [Addr.add], by rw [Nat.add_assoc]; exact hc, hl2⟩
theorem cut_low {a : Option Addr} {cap n M : Nat} (h : ∀ x, a = some x → x.block < M) : ∀ x, cutA a cap n = some x → x.block < M := by
  unfold cutA
  intro x hx
  split at hx
  · exact h x hx
  · cases a with
    | none => cases hx
    | some y =>
      simp only [Option.map_some, Option.some.injEq] at hx
      subst hx
      have := h y rfl
      unfold Addr.add
      split <;> exact this
theorem row_low {w w' : World} {a : Option Addr} {l : List Nat} {M : Nat} (hr : Row w a l) (ha : ∀ x, a = some x → x.block < M) (hb : Below M w w') : Row w' a l := by
  intro i hi
  obtain ⟨b, off, e, hc, hl⟩ := hr i hi
  exact ⟨b, off, e, by rw [hb.cell (p := ⟨b, off + i, none⟩) (show b < M from ha ⟨b, off, none⟩ e)]; exact hc, hl⟩
/-- The reader in block B: what is left, and whether it is bad; its bytes lie below M. -/
structure RdS (w : World) (B M : Nat) (l : List Nat) (bad : Bool) : Prop where
  ex : ∃ a cap, w.cell? ⟨B, 0, none⟩ = some (.slice a l.length cap) ∧ Row w a l ∧ l.length ≤ cap ∧ cap ≤ maxLen ∧ ∀ x, a = some x → x.block < M
  c1 : w.cell? ⟨B, 1, none⟩ = some (.bool bad)
  f0 : w.frozen? ⟨B, 0, none⟩ = false
  f1 : w.frozen? ⟨B, 1, none⟩ = false
theorem RdS.turn {w w' : World} {B M : Nat} {l : List Nat} {bad : Bool} (h : RdS w B M l bad) (hb : Below M w w') (hc : ∀ i, w'.cell? ⟨B, i, none⟩ = w.cell? ⟨B, i, none⟩) (hf : ∀ i, w'.frozen? ⟨B, i, none⟩ = w.frozen? ⟨B, i, none⟩) : RdS w' B M l bad := by
  obtain ⟨⟨a, cap, c0, hr, h1, h2, h3⟩, c1, f0, f1⟩ := h
  exact ⟨⟨a, cap, by rw [hc]; exact c0, row_low hr h3 hb, h1, h2, h3⟩, by rw [hc]; exact c1, by rw [hf]; exact f0, by rw [hf]; exact f1⟩
theorem below_two {w : World} {B : Nat} {u v : Value} : Below B w ((w.setCell ⟨B, 1, none⟩ u).setCell ⟨B, 0, none⟩ v) := ((Below.refl B w).setCell (p := ⟨B, 1, none⟩) (Nat.le_refl B) u).setCell (p := ⟨B, 0, none⟩) (Nat.le_refl B) v
theorem rd_set {w : World} {B M : Nat} {a : Option Addr} {cap n : Nat} {l : List Nat} {b1 b2 : Bool} {v : Value} (hM : M ≤ B) (hr : Row w a l) (hl : l.length ≤ cap) (hc : cap ≤ maxLen) (hn : n ≤ l.length) (ha : ∀ x, a = some x → x.block < M)
    (c0 : w.cell? ⟨B, 0, none⟩ = some v) (c1 : w.cell? ⟨B, 1, none⟩ = some (.bool b1)) (f0 : w.frozen? ⟨B, 0, none⟩ = false) (f1 : w.frozen? ⟨B, 1, none⟩ = false) :
    RdS ((w.setCell ⟨B, 1, none⟩ (.bool b2)).setCell ⟨B, 0, none⟩ (.slice (cutA a cap n) (l.length - n) (cap - n))) B M (l.drop n) b2 := by
  have hb : Below M w ((w.setCell ⟨B, 1, none⟩ (.bool b2)).setCell ⟨B, 0, none⟩ (.slice (cutA a cap n) (l.length - n) (cap - n))) := below_two.mono hM
  refine ⟨⟨cutA a cap n, cap - n, ?_, row_low (row_cut cap n hr hl) (cut_low ha) hb, by simp; omega, by omega, cut_low ha⟩, ?_, ?_, ?_⟩
  · rw [List.length_drop]
    refine World.cell?_setCell_same (u := v) _ _ _ ?_
    rw [World.cell?_setCell_other _ _ _ _ (fun e => by cases e)]
    exact c0
  · rw [World.cell?_setCell_other _ _ _ _ (fun e => by cases e)]
    exact World.cell?_setCell_same _ _ _ c1
  · rw [World.frozen?_setCell, World.frozen?_setCell]; exact f0
  · rw [World.frozen?_setCell, World.frozen?_setCell]; exact f1
set_option maxRecDepth 100000 in
theorem number_any (B M : Nat) (l : List Nat) (bad : Bool) (w : World) (hM : M ≤ B) (h : RdS w B M l bad) :
    Calls Tryd.prog 111 #[.pointer (some ⟨B, 0, none⟩)] w fun e w' => e = .returned (.int .u64 ((numV l : Nat) : Int)) ∧ RdS w' B M (l.drop (numN l)) (bad || numN l == 0) ∧ Below B w w' ∧ w'.heap.size = w.heap.size := by
  obtain ⟨⟨a, cap, c0, hr, hl, hc, ha⟩, c1, f0, f1⟩ := h
  have HU : Hid _ := unv_any a cap l w hr (by omega)
  have h1 := numN_le l
  have h2 := numV_le l
  change Hid (Calls Tryd.prog 114 #[.slice a l.length cap] w fun e w' => e = .returned (.tuple #[.int .u64 (numV l : Nat), .int .i64 (numN l : Nat)]) ∧ w' = w) at HU
  generalize numN l = n at *
  generalize numV l = V at *
  have HR : Hid (∀ b2, RdS ((w.setCell ⟨B, 1, none⟩ (.bool b2)).setCell ⟨B, 0, none⟩ (.slice (cutA a cap n) (l.length - n) (cap - n))) B M (l.drop n) b2) := fun b2 => rd_set hM hr hl hc h1 ha c0 c1 f0 f1
  unfold maxLen at hc
  have hnI : (n : Int) ≤ (l.length : Int) := by omega
  have hnC : (l.length : Int) ≤ (cap : Int) := by omega
  clear hr ha
  have HX : Hid (((n : Int) == 0) = (n == 0)) := by
    show _ = _
    rw [Bool.eq_iff_iff]
    simp
  by_cases hcn : cap = n
  · have HA : Hid (cutA a cap n = a) := by show _ = _; simp [cutA, hcn]
    rw [HA.out] at HR
    subst hcn
    cases bad
    · go_enter Tryd.func111, Tryd.ntmps111
      go_wp2_with (go_at_call 114; refine Calls.mono HU.out ?_; rintro e w' ⟨rfl, hw⟩; subst w')
      go_ret
      refine ⟨rfl, ?_, below_two, by simp⟩
      have := HR.out (cap == 0)
      rw [HX.out, Bool.false_or]
      rw [show l.length - cap = 0 by omega, Nat.sub_self] at this
      exact this
    · go_enter Tryd.func111, Tryd.ntmps111
      go_wp2_with (go_at_call 114; refine Calls.mono HU.out ?_; rintro e w' ⟨rfl, hw⟩; subst w')
      go_ret
      refine ⟨rfl, ?_, below_two, by simp⟩
      have := HR.out true
      rw [show l.length - cap = 0 by omega, Nat.sub_self] at this
      exact this
  · have HA : Hid (cutA a cap n = a.map (fun x => x.add n)) := by show _ = _; simp [cutA, hcn]
    rw [HA.out] at HR
    cases bad
    · go_enter Tryd.func111, Tryd.ntmps111
      go_wp2_with (go_at_call 114; refine Calls.mono HU.out ?_; rintro e w' ⟨rfl, hw⟩; subst w')
      go_ret
      refine ⟨rfl, ?_, below_two, by simp⟩
      have := HR.out (n == 0)
      rw [HX.out, Bool.false_or]
      exact this
    · go_enter Tryd.func111, Tryd.ntmps111
      go_wp2_with (go_at_call 114; refine Calls.mono HU.out ?_; rintro e w' ⟨rfl, hw⟩; subst w')
      go_ret
      refine ⟨rfl, ?_, below_two, by simp⟩
      exact HR.out true
end Go.Proofs.YtaooidckmepdeaaDoor
