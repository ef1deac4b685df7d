/- lent and back, and the document's own Set and Put. -/
import Derived.Test.YtffnhmccoacglaaRget
namespace Go.Proofs.Ytffnhmccoacglaa
set_option linter.unusedSimpArgs false
set_option linter.unusedVariables false
open Go.RowKit
theorem row_news {w : World} {ad : Addr} {l : List Nat} (h : Row w (some ad) l) : ∀ j u, (cv l)[j]? = some u → w.cell? (ad.add j) = some u := by
  intro j u hj
  have hjl : j < l.length := by
    have := (List.getElem?_eq_some_iff.1 hj).1
    rwa [cv_length] at this
  obtain ⟨ad', e, h2⟩ := row_src h (by rw [cv_length]; omega)
  injection e with e
  subst e
  exact h2 j u hj
theorem row_none {w : World} {l : List Nat} (h : Row w none l) : l = [] := by
  match l, h with
  | [], _ => rfl
  | c :: r, h =>
    obtain ⟨_, _, e, _⟩ := h 0 (by simp)
    cases e
theorem row_front {w : World} {a : Option Addr} {l t : List Nat} (h : Row w a (l ++ t)) : Row w a l := by
  intro i hi
  obtain ⟨b, off, e, hc, hl⟩ := h i (by simp; omega)
  have e2 : (l ++ t).getD i 0 = l.getD i 0 := by simp [List.getD, List.getElem?_append, hi]
  rw [e2] at hc hl
  exact ⟨b, off, e, hc, hl⟩
theorem owns_some {w : World} {B : Nat} {v : Value} {l : List Nat} (h : w.ownsRow B 5 1 v l.length (cv l)) (h0 : 0 < l.length) : ∃ g cap, v = .slice (some ⟨g, 0, none⟩) l.length cap ∧ Own B w g cap l := by
  rcases h.2 with ⟨rfl, e⟩ | ⟨g, cap, cur, rfl, _⟩
  · omega
  · exact ⟨g, cap, rfl, h⟩
theorem Own.le77 {B : Nat} {w : World} {g cap c : Nat} {l : List Nat} (h : Own B w g cap (l ++ [c])) : l.length + 1 ≤ cap := by have := h.le.1; simpa using this
theorem own_bel {B : Nat} {w0 w w1 : World} {v : Value} {n : Nat} {xs : List Value} (hown : w.ownsRow B 5 1 v n xs) (hB : Below B w0 w) (hBs : B ≤ w.heap.size) (hg : w.grownBy w1 v.ownBlock) : Below B w0 w1 :=
  hB.grown hg hBs (fun k hk => (hown.lt k hk).1)
set_option maxRecDepth 100000 in
theorem lent_any (a : Option Addr) (cap : Nat) (l : List Nat) (w : World) (hr : Row w a l) (hl : l.length ≤ 2000) (hn : a = none → cap = 0) :
    Calls Try.prog 15 #[.slice a l.length cap] w fun e w' => (∃ g cap', e = .returned (.slice (some ⟨g, 0, none⟩) l.length cap') ∧ Own w.heap.size w' g cap' (l ++ [77])) ∧ Below w.heap.size w w' := by
  obtain ⟨i0, hi, hz0, hz1, hz2⟩ := info_parts Try.info5
  have hnil := World.ownsRow_nil w w.heap.size 5 1
  have HA77 : Hid (∀ i, (l ++ [77]).getD i 0 < 256) := by
    intro i
    by_cases h : i < l.length
    · have := hr.lt i
      simpa [List.getD, List.getElem?_append, h] using this
    · by_cases h2 : i = l.length
      · subst h2; simp [List.getD]
      · rw [getD_out _ _ (by simp; omega)]; omega
  have tok : True := trivial
  cases a with
  | none =>
    obtain rfl := row_none hr
    obtain rfl := hn rfl
    clear hn
    go_enter Try.func15, Try.ntmps15
    go_wp2_with (first
      | (at_builtin; have _t := tok; refine wpList_append_own_none rfl _ _ 22 rfl w.heap.size 5 i0 1 Try.underlying22 hi _ _ _ rfl hnil rfl ?_; clear tok)
      | (at_builtin; refine wpList_append_own _ rfl _ _ 22 rfl w.heap.size 5 i0 (.int .u8 0) 1 1 Try.underlying22 hi hz0 hz1 hz2 rfl (by decide) _ _ _ rfl (hnil.alloc _) ⟨w.heap.size, 0, none⟩ 1 1 (cv [77]) rfl rfl (one_cell rfl) (cv_one _) (by unfold maxLen; omega) (by omega) (by simp) ?_; intro v2 w2 hown2 hg2 hq; obtain ⟨hR, hB⟩ := own_step (acc := []) hnil (Below.refl w.heap.size w) (Nat.le_refl _) hown2 hg2; obtain ⟨g, cap', rfl, hown⟩ := owns_some hR (by simp); have hcap := hown.le; clear hown2 hg2 hR hq))
    go_ret
    exact ⟨⟨g, cap', rfl, hown⟩, hB⟩
  | some ad =>
    have hln : (cv l).length = l.length * 1 := by rw [cv_length]; omega
    have hnw := row_news hr
    have x1 : 0 + l.length ≤ maxLen := by unfold maxLen; omega
    have x2 : (0 + l.length) * 1 ≤ 140737488355328 := by omega
    have x3 : l.length + 1 ≤ maxLen := by unfold maxLen; omega
    have x4 : (l.length + 1) * 1 ≤ 140737488355328 := by omega
    go_enter Try.func15, Try.ntmps15
    go_wp2_with (first
      | (at_builtin; have _t := tok; refine wpList_append_own w rfl (.tmp 4) (.tmp 5) 22 rfl w.heap.size 5 i0 (.int .u8 0) 1 1 Try.underlying22 hi hz0 hz1 hz2 rfl (by decide) (.slice none 0 0) 0 [] rfl hnil ad l.length cap (cv l) rfl hln hnw (cv_one _) x1 x2 (Nat.le_refl _) ?_; intro v1 w1 hown1 hg1 hz; have hb1 : Below w.heap.size w w1 := own_bel hnil (Below.refl w.heap.size w) (Nat.le_refl _) hg1; rw [Nat.zero_add, List.nil_append] at hown1; have hs1 := hb1.size; clear hnil hz hg1 tok)
      | (at_builtin; refine wpList_append_own _ rfl (.tmp 7) (.tmp 8) 22 rfl w.heap.size 5 i0 (.int .u8 0) 1 1 Try.underlying22 hi hz0 hz1 hz2 rfl (by decide) v1 l.length (cv l) rfl (hown1.alloc _) ⟨w1.heap.size, 0, none⟩ 1 1 (cv [77]) rfl rfl (one_cell rfl) (cv_one _) x3 x4 (by simp; omega) ?_; intro v2 w2 hown2 hg2 hq; obtain ⟨hR, hB⟩ := own_step hown1 hb1 hs1 hown2 hg2; obtain ⟨g, cap', rfl, hown⟩ := owns_some hR (by simp); have hcap := hown.le77; have hcapI : (l.length : Int) ≤ (cap' : Int) := (by omega); clear hown2 hg2 hR hq hown1 hb1))
    go_ret
    exact ⟨⟨g, cap', rfl, hown⟩, hB⟩
/-- back: as they were, the one behind too. -/
theorem back_any (g capx : Nat) (a : Option Addr) (cap : Nat) (l : List Nat) (w : World) (hx : Row w (some ⟨g, 0, none⟩) l) (hr : Row w a l) (hl : l.length ≤ 2000) (hcap : l.length + 1 ≤ capx) (h77 : w.cell? ⟨g, l.length, none⟩ = some (.int .u8 77)) :
    Calls Try.prog 21 #[.slice (some ⟨g, 0, none⟩) l.length capx, .slice a l.length cap] w fun e w' => e = .returned (.bool true) ∧ ∃ n, w' = w.drewN n := by
  have hm : l.length ≤ maxLen := by unfold maxLen; omega
  have hcI : (l.length : Int) + 1 ≤ (capx : Int) := by omega
  have hlt : (l.length : Int) < (l.length : Int) + 1 := by omega
  go_enter Try.func21, Try.ntmps21
  go_wp2_with fail
  refine (bytes_any (some ⟨g, 0, none⟩) capx l a cap l w hx hr hm hm).mono ?_
  rintro e w1 ⟨rfl, n, rfl⟩
  rw [show decide (l = l) = true by simp]
  go_wp2_with fail
  go_ret
  exact ⟨rfl, n, rfl⟩
end Go.Proofs.Ytffnhmccoacglaa
