/- Rows of steps: each a function value that answers OK or ErrOff; inTurn does them up to the first one that fails. -/
import Derived.Test.YtohncckmennfbaaDoorJf
import Derived.Shelf.Abstract
namespace Go.Proofs.YtohncckmennfbaaDoor
set_option linter.unusedSimpArgs false
set_option linter.unusedVariables false
open Go.RowKit Go.MapKept Go.Proofs
/-- An answer: OK and then A, or ErrOff and then B. -/
def Ans (A B : World → Prop) : Ending → World → Prop := fun e w' => ∃ c : Int, e = .returned (.int .i64 c) ∧ ((c = 0 ∧ A w') ∨ (c = 9 ∧ B w'))
theorem Ans.mono {A B A' B' : World → Prop} {e : Ending} {w : World} (h : Ans A B e w) (h1 : A w → A' w) (h2 : B w → B' w) : Ans A' B' e w := by
  obtain ⟨c, rfl, h⟩ := h
  exact ⟨c, rfl, h.imp (fun x => ⟨x.1, h1 x.2⟩) (fun x => ⟨x.1, h2 x.2⟩)⟩
/-- A step: from Fr and P on it leads to Fr and Q, or to Bad. -/
def StepOk (Fr Bad : World → Prop) (v : Value) (P Q : World → Prop) : Prop :=
  ∃ f first cap, v = .func (.func f) first cap ∧ Enters Tryd.prog f ∧ ∀ w, Fr w → P w → Calls Tryd.prog f (first ++ cap) w (Ans (fun w' => Fr w' ∧ Q w') Bad)
def Chain (Fr Bad : World → Prop) : List Value → (World → Prop) → (World → Prop) → Prop
  | [], P, Q => ∀ w, Fr w → P w → Q w
  | v :: vs, P, R => ∃ Q, StepOk Fr Bad v P Q ∧ Chain Fr Bad vs Q R
theorem Chain.nil {Fr Bad : World → Prop} {P Q : World → Prop} (h : ∀ w, Fr w → P w → Q w) : Chain Fr Bad [] P Q := h
theorem Chain.cons {Fr Bad : World → Prop} {v : Value} {vs : List Value} {P Q R : World → Prop} (h : StepOk Fr Bad v P Q) (t : Chain Fr Bad vs Q R) : Chain Fr Bad (v :: vs) P R := ⟨Q, h, t⟩
theorem Chain.append {Fr Bad : World → Prop} {vs ws : List Value} {P Q R : World → Prop} (h : Chain Fr Bad vs P Q) (k : Chain Fr Bad ws Q R) : Chain Fr Bad (vs ++ ws) P R := by
  induction vs generalizing P with
  | nil =>
    have h' : ∀ w, Fr w → P w → Q w := h
    cases ws with
    | nil =>
      have k' : ∀ w, Fr w → Q w → R w := k
      exact Chain.nil fun w a b => k' w a (h' w a b)
    | cons v vs =>
      obtain ⟨Q2, ⟨f, first, cap, e, he, hc⟩, t⟩ := k
      exact ⟨Q2, ⟨f, first, cap, e, he, fun w a b => hc w a (h' w a b)⟩, t⟩
  | cons v vs ih =>
    obtain ⟨Q2, s, t⟩ := h
    exact ⟨Q2, s, ih t⟩
set_option maxRecDepth 100000 in
theorem inTurn_any (Fr Bad : World → Prop) (vs : List Value) (P R : World → Prop) (rb cap : Nat) (hrow : ∀ w, Fr w → ∀ i v, vs[i]? = some v → w.cell? ⟨rb, i, none⟩ = some v) (hlen : vs.length ≤ 1000000) (hC : Chain Fr Bad vs P R) (w : World) (hF : Fr w) (hP : P w) :
    Calls Tryd.prog 47 #[.slice (some ⟨rb, 0, none⟩) vs.length cap] w (Ans (fun w' => Fr w' ∧ R w') Bad) := by
  go_enter Tryd.func47, Tryd.ntmps47
  go_wp2
  go_loopw [8] (fun i wr => ∃ k P', k ≤ vs.length ∧ i = .int .i64 (k : Int) ∧ Fr wr ∧ P' wr ∧ Chain Fr Bad (vs.drop k) P' R) (fun i _ => vs.length - (intOf i).toNat)
  case atStart => exact ⟨0, P, by omega, rfl, hF, hP, by simpa using hC⟩
  case round =>
    clear hC hF hP P
    obtain ⟨k, P, hk, rfl, hF, hP, hC⟩ := hrel
    by_cases hlt : k < vs.length
    · have hltI : (k : Int) < (vs.length : Int) := by omega
      rw [List.drop_eq_getElem_cons hlt] at hC
      have hv : vs[k]? = some vs[k] := by simp [hlt]
      have hcell := hrow wr hF k _ hv
      generalize vs[k] = v at *
      obtain ⟨Q, ⟨f, first, cp, rfl, hen, hc⟩, t⟩ := hC
      have hen2 := fun w => hen (first ++ cp) w
      clear hen
      have HC : Hid _ := hc wr hF hP
      have HT : Hid _ := t
      clear hc t hrow
      go_wp2_with fail
      refine Calls.mono HC.out ?_
      rintro e w1 ⟨c, rfl, hc⟩
      rcases hc with ⟨rfl, hF1, hQ1⟩ | ⟨rfl, hB1⟩
      · go_wp2
        exact ⟨⟨k + 1, Q, by omega, by go_num, hF1, hQ1, HT.out⟩, by simp [intOf]; omega⟩
      · go_wp2
        go_ret
        exact ⟨9, rfl, .inr ⟨rfl, hB1⟩⟩
    · obtain rfl : k = vs.length := by omega
      rw [List.drop_length] at hC
      have HC : Hid _ := hC
      clear hC
      go_wp2
      go_ret
      have h0 : ∀ w, Fr w → P w → R w := HC.out
      exact ⟨0, rfl, .inl ⟨rfl, hF, h0 _ hF hP⟩⟩
end Go.Proofs.YtohncckmennfbaaDoor
