/- The laws' own: fresh; New, Crash, Cut, Write, Flush, Read as they use them. -/
import Derived.Test.YtmodjgailmpfmaaDoorJn
import Derived.Test.YtmodjgailmpfmaaDoorJy
import Derived.Test.YtmodjgailmpfmaaDoorUc
namespace Go.Proofs.YtmodjgailmpfmaaDoor
set_option linter.unusedSimpArgs false
set_option linter.unusedVariables false
open Go.RowKit Go.MapKept Go.Proofs
def blank (n : Nat) : Dv := fresh n fun _ => zeros
def zs0 : Nat → List Nat := fun _ => zeros
theorem newF {B : Nat} {E : List Nat} {w1 w : World} (hF : Fr B E w1 w) (n : Nat) (h1 : 1 ≤ n) (h2 : n ≤ 65536) :
    Calls Tryd.prog 25 #[.int .i64 (n : Int)] w fun e w' => ∃ p, e = .returned (.tuple #[.pointer (some ⟨p, 0, none⟩), .int .i64 0]) ∧ Fr B E w1 w' ∧ DP B E w' p (blank n) ∧ Below w.heap.size w w' ∧ w.heap.size ≤ p := by
  refine (newD n w h1 h2).mono ?_
  rintro e w' ⟨p, F, rfl, hd, hF', hb⟩
  have hB := hF.big
  have hs := hF.size
  refine ⟨p, rfl, hF.below hb, ⟨F, hd, fun x hx => ⟨by have := hF' x hx; omega, fun q => by have := hF.ltw x q; have := hF' x hx; omega⟩⟩, hb, ?_⟩
  obtain ⟨fb, pb, tb, rfl, _⟩ := hd
  exact hF' p (by simp [fp])
theorem crashF {B : Nat} {E : List Nat} {w1 w : World} {dp : Nat} {d : Dv} (hF : Fr B E w1 w) (hD : DP B E w dp d) (a : Option Addr) (l : List Int) (cap : Nat) (hl : RowI w a l) (hll : l.length ≤ 9223372036854775807) :
    Calls Tryd.prog 29 #[.pointer (some ⟨dp, 0, none⟩), .slice a l.length cap] w fun e w' => ∃ c, e = .returned (.pointer (some ⟨c, 0, none⟩)) ∧ Fr B E w1 w' ∧ DP B E w' c (d.crash l) ∧ Below w.heap.size w w' := by
  obtain ⟨F, hd, hFP⟩ := hD
  refine (crashD hd a l cap hl hll).mono ?_
  rintro e w' ⟨c, F', rfl, hd', hF', hb⟩
  have hB := hF.big
  have hs := hF.size
  exact ⟨c, rfl, hF.below hb, ⟨F', hd', fun x hx => ⟨by have := hF' x hx; omega, fun q => by have := hF.ltw x q; have := hF' x hx; omega⟩⟩, hb⟩
theorem readF {B : Nat} {E : List Nat} {w1 w : World} {dp : Nat} {d : Dv} (hF : Fr B E w1 w) (hD : DP B E w dp d) (k : Nat) (hk : k < d.n) :
    Calls Tryd.prog 20 #[.pointer (some ⟨dp, 0, none⟩), .int .i64 (k : Int)] w fun e w' => ∃ g, e = .returned (.tuple #[.slice (some ⟨g, 0, none⟩) 512 512, .int .i64 0]) ∧ Full w' g 81 (d.cur k) ∧ w.heap.size ≤ g ∧ Below w.heap.size w w' := by
  obtain ⟨F, hd, hFP⟩ := hD
  exact readD hd k hk
/-- What fresh leaves. -/
def FreshPost (B : Nat) (E : List Nat) (w1 : World) (e : Ending) (w' : World) : Prop :=
  ∃ dp j d, e = .returned (.tuple #[.pointer (some ⟨dp, 0, none⟩), .pointer (some ⟨j, 0, none⟩), .bool true]) ∧ Fr B E w1 w' ∧ JP B E w' j dp d [] false ∧ Rest d [] zs0 ∧ d.n = 275 ∧ d.cut = false ∧ d.ops ≤ 3
theorem formatted_blank (n : Nat) (hn : 246 ≤ n) : Rest (formatted (blank n)) [] zs0 ∧ (formatted (blank n)).n = n ∧ (formatted (blank n)).cut = false ∧ (formatted (blank n)).ops = 2 := ⟨formatted_rest (fun _ => rfl) hn, rfl, rfl, rfl⟩
set_option maxRecDepth 100000 in
theorem fresh_any {B : Nat} {E : List Nat} {w1 w : World} (hF : Fr B E w1 w) : Calls Tryd.prog 16 #[] w (FreshPost B E w1) := by
  have HN : Hid _ := newF hF 275 (by omega) (by omega)
  obtain ⟨r1, r2, r3, r4⟩ := formatted_blank 275 (by omega)
  have HFM : Hid (∀ w' p, Fr B E w1 w' → DP B E w' p (blank 275) → Calls Tryd.prog 27 #[.pointer (some ⟨p, 0, none⟩)] w' fun e w'' => e = .returned (.int .i64 0) ∧ Fr B E w1 w'' ∧ DP B E w'' p (formatted (blank 275))) := fun w' p h1 h2 => format_ok h1 h2 (show 246 ≤ 275 by omega) rfl (show 0 + 2 ≤ _ by omega)
  have HO : Hid (∀ w' p, Fr B E w1 w' → DP B E w' p (formatted (blank 275)) → Calls Tryd.prog 23 #[.pointer (some ⟨p, 0, none⟩)] w' fun e w'' => ∃ j, e = .returned (.tuple #[.pointer (some ⟨j, 0, none⟩), .int .i64 0]) ∧ Fr B E w1 w'' ∧ JP B E w'' j p (formatted (blank 275)).tick.flush [] false ∧ w'.heap.size ≤ j) := fun w' p h1 h2 => open_ok h1 h2 r1 (on_uncut r3) (by rw [r4]; omega)
  have HR : Hid (Rest (formatted (blank 275)).tick.flush [] zs0) := ((Like.tick _).rest r1).flush
  clear r1 r2 r3 r4
  go_enter Tryd.func16, Tryd.ntmps16
  go_wp2_with (first
    | (go_at_call 25; refine Calls.mono HN.out ?_; rintro e w2 ⟨p, rfl, hF2, hD2, _, _⟩)
    | (go_at_call 27; refine (HFM.out _ _ hF2 hD2).mono ?_; rintro e w3 ⟨rfl, hF3, hD3⟩)
    | (go_at_call 23; refine (HO.out _ _ hF3 hD3).mono ?_; rintro e w4 ⟨j, rfl, hF4, hJ4, _⟩))
  go_ret3
  exact ⟨p, j, _, rfl, hF4, hJ4, HR.out, rfl, rfl, Nat.le_refl _⟩
end Go.Proofs.YtmodjgailmpfmaaDoor
