/- A reader's text. -/
import Derived.Test.YtaooidckmepdeaaDoorRd
namespace Go.Proofs.YtaooidckmepdeaaDoor
set_option linter.unusedSimpArgs false
set_option linter.unusedVariables false
open Go.RowKit
def txO (l : List Nat) : Bool := decide ((l.drop (numN l)).length < numV l)
def txV (there : Bool) (l : List Nat) : List Nat := if there then (if txO l then [] else (l.drop (numN l)).take (numV l)) else []
def txL (there : Bool) (l : List Nat) : List Nat := if there then (if txO l then l.drop (numN l) else (l.drop (numN l)).drop (numV l)) else l
def txB (there : Bool) (l : List Nat) (bad : Bool) : Bool := if there then ((bad || numN l == 0) || txO l) else bad
theorem rd_bad {w : World} {B M : Nat} {l : List Nat} {bad : Bool} (h : RdS w B M l bad) (hM : M ≤ B) : RdS (w.setCell ⟨B, 1, none⟩ (.bool true)) B M l true := by
  obtain ⟨⟨a, cap, c0, hr, h1, h2, h3⟩, c1, f0, f1⟩ := h
  refine ⟨⟨a, cap, ?_, row_low hr h3 ((Below.refl M w).setCell (p := ⟨B, 1, none⟩) hM _), h1, h2, h3⟩, World.cell?_setCell_same _ _ _ c1, ?_, ?_⟩
  · rw [World.cell?_setCell_other _ _ _ _ (fun e => by cases e)]; exact c0
  · rw [World.frozen?_setCell]; exact f0
  · rw [World.frozen?_setCell]; exact f1
theorem rd_left {w : World} {B M : Nat} {a : Option Addr} {cap n : Nat} {l : List Nat} {bad : Bool} {v : Value} (hM : M ≤ B) (hr : Row w a l) (hl : l.length ≤ cap) (hc : cap ≤ maxLen) (hn : n ≤ l.length) (ha : ∀ x, a = some x → x.block < M)
    (c0 : w.cell? ⟨B, 0, none⟩ = some v) (c1 : w.cell? ⟨B, 1, none⟩ = some (.bool bad)) (f0 : w.frozen? ⟨B, 0, none⟩ = false) (f1 : w.frozen? ⟨B, 1, none⟩ = false) :
    RdS (w.setCell ⟨B, 0, none⟩ (.slice (cutA a cap n) (l.length - n) (cap - n))) B M (l.drop n) bad := by
  have hb : Below M w (w.setCell ⟨B, 0, none⟩ (.slice (cutA a cap n) (l.length - n) (cap - n))) := (Below.refl M w).setCell (p := ⟨B, 0, none⟩) hM _
  refine ⟨⟨cutA a cap n, cap - n, ?_, row_low (row_cut cap n hr hl) (cut_low ha) hb, by simp; omega, by omega, cut_low ha⟩, ?_, ?_, ?_⟩
  · rw [List.length_drop]
    exact World.cell?_setCell_same _ _ _ c0
  · rw [World.cell?_setCell_other _ _ _ _ (fun e => by cases e)]
    exact c1
  · rw [World.frozen?_setCell]; exact f0
  · rw [World.frozen?_setCell]; exact f1
theorem row_take {w : World} {a : Option Addr} {l : List Nat} (n : Nat) (hr : Row w a l) : Row w a (l.take n) := by
  rw [← List.take_append_drop n l] at hr
  exact row_front hr
theorem conv_take {w : World} {a : Option Addr} {l : List Nat} (cap : Nat) {V : Nat} (hr : Row w a l) (hV : ¬ l.length < V) : (convert 29 9 (.slice a V cap)).run Tryd.prog w = .ok (.string (strN (l.take V))) w := by
  have := conv_row cap (row_take V hr)
  rw [show (l.take V).length = V by simp; omega] at this
  exact this
set_option maxRecDepth 100000 in
theorem rtx_any (there : Bool) (B M : Nat) (l : List Nat) (bad : Bool) (w : World) (hM : M ≤ B) (h : RdS w B M l bad) :
    Calls Tryd.prog 113 #[.pointer (some ⟨B, 0, none⟩), .bool there] w fun e w' => e = .returned (.string (strN (txV there l))) ∧ RdS w' B M (txL there l) (txB there l bad) ∧ Below B w w' ∧ w'.heap.size = w.heap.size := by
  cases there
  · go_enter Tryd.func113, Tryd.ntmps113
    go_wp2_with fail
    go_ret
    exact ⟨rfl, h, Below.refl _ _, rfl⟩
  · have HN : Hid _ := number_any B M l bad w hM h
    have hV := numV_le l
    by_cases hb : (l.drop (numN l)).length < numV l
    · rw [show txV true l = [] by simp only [txV, txO, if_true, decide_eq_true hb], show txL true l = l.drop (numN l) by simp only [txL, txO, if_true, decide_eq_true hb], show txB true l bad = true by simp only [txB, txO, if_true, decide_eq_true hb, Bool.or_true]]
      generalize (bad || numN l == 0) = b1 at *
      generalize l.drop (numN l) = l1 at *
      generalize numV l = V at *
      clear h
      have hbI : (l1.length : Int) < (V : Int) := by omega
      have tok : True := trivial
      go_enter Tryd.func113, Tryd.ntmps113
      go_wp2_with (go_at_call 111; refine Calls.mono HN.out ?_; rintro e w1 ⟨rfl, hR, hB1, hz1⟩; have HR : Hid _ := rd_bad hR hM; obtain ⟨⟨a, cap, c0, hr, h1, h2, h3⟩, c1, f0, f1⟩ := hR; unfold maxLen at h2; have hw : IntKind.u64.wrap (l1.length : Int) = (l1.length : Int) := (by rw [IntKind.wrap_u64]; omega); clear hr)
      go_ret
      exact ⟨rfl, HR.out, hB1.setCell (p := ⟨B, 1, none⟩) (Nat.le_refl B) _, by simp; exact hz1⟩
    · rw [show txV true l = (l.drop (numN l)).take (numV l) by simp only [txV, txO, if_true, decide_eq_false hb]; simp, show txL true l = (l.drop (numN l)).drop (numV l) by simp only [txL, txO, if_true, decide_eq_false hb]; simp, show txB true l bad = (bad || numN l == 0) by simp only [txB, txO, if_true, decide_eq_false hb, Bool.or_false]]
      generalize (bad || numN l == 0) = b1 at *
      generalize l.drop (numN l) = l1 at *
      generalize numV l = V at *
      clear h
      have hbI : (V : Int) ≤ (l1.length : Int) := by omega
      go_enter Tryd.func113, Tryd.ntmps113
      go_wp2_with (go_at_call 111; refine Calls.mono HN.out ?_; rintro e w1 ⟨rfl, hR, hB1, hz1⟩; obtain ⟨⟨a, cap, c0, hr, h1, h2, h3⟩, c1, f0, f1⟩ := hR; unfold maxLen at h2; have hw : IntKind.u64.wrap (l1.length : Int) = (l1.length : Int) := (by rw [IntKind.wrap_u64]; omega); have hcI : (l1.length : Int) ≤ (cap : Int) := (by omega); have hvc : (V : Int) ≤ (cap : Int) := (by omega); have kc := conv_take cap hr hb; have HR : Hid _ := rd_left hM hr h1 h2 (Nat.le_of_not_lt hb) h3 c0 c1 f0 f1; clear hr h3)
      · have hne : cap = V := by assumption
        go_ret
        have := HR.out
        simp only [cutA, if_pos hne, hne, Nat.sub_self] at this
        exact ⟨rfl, this, hB1.setCell (p := ⟨B, 0, none⟩) (Nat.le_refl B) _, by simp; exact hz1⟩
      · have hne : ¬ cap = V := by assumption
        go_ret
        have := HR.out
        simp only [cutA, if_neg hne] at this
        exact ⟨rfl, this, hB1.setCell (p := ⟨B, 0, none⟩) (Nat.le_refl B) _, by simp; exact hz1⟩
end Go.Proofs.YtaooidckmepdeaaDoor
