/- The laws' own: fresh; New, Crash, Cut, Write, Flush, Read as they use them. -/
import Derived.Test.YtohncckmennfbaaDoorJn
import Derived.Test.YtohncckmennfbaaDoorJy
import Derived.Test.YtohncckmennfbaaDoorUc
namespace Go.Proofs.YtohncckmennfbaaDoor
set_option linter.unusedSimpArgs false
set_option linter.unusedVariables false
open Go.RowKit Go.MapKept Go.Proofs
def blank (n : Nat) : Dv := fresh n fun _ => zeros
def zs0 : Nat → List Nat := fun _ => zeros
theorem newF {B : Nat} {E : List Nat} {w1 w : World} (hF : Fr B E w1 w) (n : Nat) (h1 : 1 ≤ n) (h2 : n ≤ 65536) :
    Calls Tryd.prog 27 #[.int .i64 (n : Int)] w fun e w' => ∃ p, e = .returned (.tuple #[.pointer (some ⟨p, 0, none⟩), .int .i64 0]) ∧ Fr B E w1 w' ∧ DP B E w' p (blank n) ∧ Below w.heap.size w w' ∧ w.heap.size ≤ p := by
  refine (newD n w h1 h2).mono ?_
  rintro e w' ⟨p, F, rfl, hd, hF', hb⟩
  have hB := hF.big
  have hs := hF.size
  refine ⟨p, rfl, hF.below hb, ⟨F, hd, fun x hx => ⟨by have := hF' x hx; omega, fun q => by have := hF.ltw x q; have := hF' x hx; omega⟩⟩, hb, ?_⟩
  obtain ⟨fb, pb, tb, rfl, _⟩ := hd
  exact hF' p (by simp [fp])
theorem crashF {B : Nat} {E : List Nat} {w1 w : World} {dp : Nat} {d : Dv} (hF : Fr B E w1 w) (hD : DP B E w dp d) (a : Option Addr) (l : List Int) (cap : Nat) (hl : RowI w a l) (hll : l.length ≤ 9223372036854775807) :
    Calls Tryd.prog 24 #[.pointer (some ⟨dp, 0, none⟩), .slice a l.length cap] w fun e w' => ∃ c, e = .returned (.pointer (some ⟨c, 0, none⟩)) ∧ Fr B E w1 w' ∧ DP B E w' c (d.crash l) ∧ Below w.heap.size w w' := by
  obtain ⟨F, hd, hFP⟩ := hD
  refine (crashD hd a l cap hl hll).mono ?_
  rintro e w' ⟨c, F', rfl, hd', hF', hb⟩
  have hB := hF.big
  have hs := hF.size
  exact ⟨c, rfl, hF.below hb, ⟨F', hd', fun x hx => ⟨by have := hF' x hx; omega, fun q => by have := hF.ltw x q; have := hF' x hx; omega⟩⟩, hb⟩
theorem readF {B : Nat} {E : List Nat} {w1 w : World} {dp : Nat} {d : Dv} (hF : Fr B E w1 w) (hD : DP B E w dp d) (k : Nat) (hk : k < d.n) :
    Calls Tryd.prog 37 #[.pointer (some ⟨dp, 0, none⟩), .int .i64 (k : Int)] w fun e w' => ∃ g, e = .returned (.tuple #[.slice (some ⟨g, 0, none⟩) 512 512, .int .i64 0]) ∧ Full w' g 83 (d.cur k) ∧ w.heap.size ≤ g ∧ Below w.heap.size w w' := by
  obtain ⟨F, hd, hFP⟩ := hD
  exact readD hd k hk
theorem formatted_blank (n : Nat) (hn : 246 ≤ n) : Rest (formatted (blank n)) [] zs0 ∧ (formatted (blank n)).n = n ∧ (formatted (blank n)).cut = false ∧ (formatted (blank n)).ops = 2 := ⟨formatted_rest (fun _ => rfl) hn, rfl, rfl, rfl⟩
end Go.Proofs.YtohncckmennfbaaDoor
