/- add, above, follows, own. -/
import Derived.Test.YtnnljdnaipjoiaaPm
import Derived.Test.YtnnljdnaipjoiaaShf
import Derived.Test.YtnnljdnaipjoiaaLat
import Derived.Laws.ResultCell
namespace Go.Proofs.Ytnnljdnaipjoiaa
set_option linter.unusedSimpArgs false
set_option linter.unusedVariables false
open Go.RowKit
/-- An int. -/
def In64 (z : Int) : Prop := -9223372036854775808 ≤ z ∧ z < 9223372036854775808
def tot (z : Int) : Value := .agg #[.int .i64 (rnd z), .int .i64 (rst z)]
theorem rnd_mid {z : Int} (h1 : -9223372036854775808 ≤ z) (h2 : z < 9223372036854775808) : rnd z = 0 ∧ rst z = z := by
  have : rnd z = 0 := by unfold rnd; omega
  exact ⟨this, by unfold rst; rw [this]; omega⟩
theorem rnd_up {z : Int} (h1 : 9223372036854775808 ≤ z) (h2 : z < 27670116110564327424) : rnd z = 1 ∧ rst z = z - 18446744073709551616 := by
  have : rnd z = 1 := by unfold rnd; omega
  exact ⟨this, by unfold rst; rw [this]; omega⟩
theorem rnd_down {z : Int} (h1 : z < -9223372036854775808) (h2 : -27670116110564327424 ≤ z) : rnd z = -1 ∧ rst z = z + 18446744073709551616 := by
  have : rnd z = -1 := by unfold rnd; omega
  exact ⟨this, by unfold rst; rw [this]; omega⟩
set_option maxRecDepth 100000 in
theorem add_any (a b : Int) (w : World) (ha : In64 a) (hb : In64 b) :
    Calls Try.prog 44 #[.int .i64 a, .int .i64 b] w fun e w' => e = .returned (tot (a + b)) ∧ Below w.heap.size w w' := by
  obtain ⟨a1, a2⟩ := ha
  obtain ⟨b1, b2⟩ := hb
  obtain ⟨r, t, hr, ht, hw⟩ : ∃ r t, rnd (a + b) = r ∧ rst (a + b) = t ∧ IntKind.i64.wrap (a + b) = t := by
    refine ⟨_, _, rfl, rfl, ?_⟩
    rw [IntKind.wrap_i64]
    unfold rst rnd
    omega
  unfold tot
  rw [hr, ht]
  by_cases h3 : 0 < b
  · have hd3 : decide (0 < b) = true := decide_eq_true h3
    have h4 : ¬ b < 0 := by omega
    have hd4 : decide (b < 0) = false := decide_eq_false h4
    by_cases h5 : t < a
    · have hd5 : decide (t < a) = true := decide_eq_true h5
      obtain rfl : r = 1 := by unfold rst at ht; rw [hr] at ht; unfold rnd at hr; omega
      go_enter Try.func44, Try.ntmps44
      go_wp2
      exact bodyPost_ret (v := .agg #[.int .i64 1, .int .i64 t]) (by simp [results, Try.results44, go_sem]) rfl ⟨rfl, below_box _⟩
    · have hd5 : decide (t < a) = false := decide_eq_false h5
      obtain rfl : r = 0 := by unfold rst at ht; rw [hr] at ht; unfold rnd at hr; omega
      go_enter Try.func44, Try.ntmps44
      go_wp2
      exact bodyPost_ret (v := .agg #[.int .i64 0, .int .i64 t]) (by simp [results, Try.results44, go_sem]) rfl ⟨rfl, below_box _⟩
  · have hd3 : decide (0 < b) = false := decide_eq_false h3
    by_cases h4 : b < 0
    · have hd4 : decide (b < 0) = true := decide_eq_true h4
      by_cases h5 : a < t
      · have hd5 : decide (a < t) = true := decide_eq_true h5
        obtain rfl : r = -1 := by unfold rst at ht; rw [hr] at ht; unfold rnd at hr; omega
        go_enter Try.func44, Try.ntmps44
        go_wp2
        exact bodyPost_ret (v := .agg #[.int .i64 (-1), .int .i64 t]) (by simp [results, Try.results44, go_sem]) rfl ⟨rfl, below_box _⟩
      · have hd5 : decide (a < t) = false := decide_eq_false h5
        obtain rfl : r = 0 := by unfold rst at ht; rw [hr] at ht; unfold rnd at hr; omega
        go_enter Try.func44, Try.ntmps44
        go_wp2
        exact bodyPost_ret (v := .agg #[.int .i64 0, .int .i64 t]) (by simp [results, Try.results44, go_sem]) rfl ⟨rfl, below_box _⟩
    · have hd4 : decide (b < 0) = false := decide_eq_false h4
      obtain rfl : r = 0 := by unfold rst at ht; rw [hr] at ht; unfold rnd at hr; omega
      go_enter Try.func44, Try.ntmps44
      go_wp2
      exact bodyPost_ret (v := .agg #[.int .i64 0, .int .i64 t]) (by simp [results, Try.results44, go_sem]) rfl ⟨rfl, below_box _⟩
set_option maxRecDepth 100000 in
theorem above_any (z n : Int) (w : World) (hn : In64 n) : Calls Try.prog 45 #[tot z, .int .i64 n] w fun e w' => e = .returned (.bool (decide (n < z))) ∧ Below w.heap.size w w' := by
  obtain ⟨n1, n2⟩ := hn
  obtain ⟨r, t, hr, ht⟩ : ∃ r t, rnd z = r ∧ rst z = t := ⟨_, _, rfl, rfl⟩
  unfold tot
  rw [hr, ht]
  by_cases h1 : 0 < r
  · have hd1 : decide (0 < r) = true := decide_eq_true h1
    have hd2 : decide (n < z) = true := decide_eq_true (by unfold rnd at hr; omega)
    rw [hd2]
    go_enter Try.func45, Try.ntmps45
    go_wp2
    go_ret
    exact ⟨rfl, below_box _⟩
  · have hd1 : decide (0 < r) = false := decide_eq_false h1
    by_cases h2 : r = 0
    · subst h2
      obtain rfl : t = z := by unfold rst at ht; rw [hr] at ht; omega
      go_enter Try.func45, Try.ntmps45
      go_wp2
      go_ret
      exact ⟨rfl, below_box _⟩
    · have hd2 : decide (n < z) = false := decide_eq_false (by unfold rnd at hr; omega)
      have hd3 : decide (r = 0) = false := decide_eq_false h2
      rw [hd2]
      go_enter Try.func45, Try.ntmps45
      go_wp2
      go_ret
      exact ⟨rfl, below_box _⟩
/-- x stands behind y. -/
def folB (x y : Ba) : Bool := decide (y.base < x.base) && decide (y.base + y.span ≤ x.base)
/-- A batch's numbers are ints, its texts no longer than may be copied. -/
structure BOk (b : Ba) : Prop where
  ba : In64 b.base
  sp : In64 b.span
  r : ∀ r ∈ b.rs, In64 r.o ∧ r.k.size ≤ 281474976710656 ∧ r.v.size ≤ 281474976710656
set_option maxRecDepth 100000 in
theorem follows_any (x y : Ba) (ax ay : Option Addr) (cx cy : Nat) (w : World) (hx : BOk x) (hy : BOk y) :
    Calls Try.prog 46 #[.agg (bcells x ax cx), .agg (bcells y ay cy)] w fun e w' => e = .returned (.bool (folB x y)) ∧ Below w.heap.size w w' := by
  have HX0 : Hid (In64 x.base) := hx.ba
  have HY0 : Hid (In64 y.base) := hy.ba
  have HY1 : Hid (In64 y.span) := hy.sp
  obtain ⟨xb, xs, xp, xq, xr⟩ := x
  obtain ⟨yb, ys, yp, yq, yr⟩ := y
  simp only at HX0 HY0 HY1
  simp only [bcells, folB]
  have HM : Hid (∀ w3, Below ((w.alloc (.cells #[.int .i64 xb, .int .i64 xs, .int .i64 xp, .int .i64 xq, .slice ax xr.length cx] 61)).alloc (.cells #[.int .i64 yb, .int .i64 ys, .int .i64 yp, .int .i64 yq, .slice ay yr.length cy] 61)).heap.size ((w.alloc (.cells #[.int .i64 xb, .int .i64 xs, .int .i64 xp, .int .i64 xq, .slice ax xr.length cx] 61)).alloc (.cells #[.int .i64 yb, .int .i64 ys, .int .i64 yp, .int .i64 yq, .slice ay yr.length cy] 61)) w3 →
      (w3.cell? ⟨w.heap.size, 0, none⟩ = some (.int .i64 xb) ∧ w3.cell? ⟨w.heap.size + 1, 0, none⟩ = some (.int .i64 yb) ∧ w3.cell? ⟨w.heap.size + 1, 1, none⟩ = some (.int .i64 ys)) ∧ Below w.heap.size w w3) := fun w3 hb => by
    have e0 := heap_alloc_new w (.cells #[.int .i64 xb, .int .i64 xs, .int .i64 xp, .int .i64 xq, .slice ax xr.length cx] 61)
    have e1 := heap_alloc_new (w.alloc (.cells #[.int .i64 xb, .int .i64 xs, .int .i64 xp, .int .i64 xq, .slice ax xr.length cx] 61)) (.cells #[.int .i64 yb, .int .i64 ys, .int .i64 yp, .int .i64 yq, .slice ay yr.length cy] 61)
    have f0 := (hb.block w.heap.size (by simp; omega)).trans ((Below.heap_alloc _ _ _ (by simp)).trans e0)
    have f1 := (hb.block _ (by simp)).trans e1
    rw [show (w.alloc (.cells #[.int .i64 xb, .int .i64 xs, .int .i64 xp, .int .i64 xq, .slice ax xr.length cx] 61)).heap.size = w.heap.size + 1 by simp] at f1
    refine ⟨⟨?_, ?_, ?_⟩, ((below_box _).trans ((below_box _).mono (by simp))).trans (hb.mono (by simp; omega))⟩
    · exact cell_of_row _ _ 0 _ _ _ f0
    · exact cell_of_row _ _ 0 _ _ _ f1
    · exact cell_of_row _ _ 1 _ _ _ f1
  have hS0 := (HM.out _ (Below.refl _ _)).1
  by_cases h : yb < xb
  · have hd : decide (yb < xb) = true := decide_eq_true h
    have HR : Hid ((decide (yb < xb) && decide (yb + ys ≤ xb)) = !decide (xb < yb + ys)) := by
      show _ = _
      rw [hd, Bool.true_and]
      by_cases h2 : xb < yb + ys
      · rw [decide_eq_true h2, decide_eq_false (by omega)]; rfl
      · rw [decide_eq_false h2, decide_eq_true (by omega)]; rfl
    rw [HR.out]
    go_enter Try.func46, Try.ntmps46
    go_wp2
    go_region_held3 (fun y : World => y.cell? ⟨w.heap.size, 0, none⟩ = some (.int .i64 xb) ∧ y.cell? ⟨w.heap.size + 1, 0, none⟩ = some (.int .i64 yb) ∧ y.cell? ⟨w.heap.size + 1, 1, none⟩ = some (.int .i64 ys)) (first | exact hS2 | exact hS1 | exact hS0) ((first
      | (go_at_call 44; refine (add_any _ _ _ HY0.out HY1.out).mono ?_; rintro e w1 ⟨rfl, hb1⟩; have hS1 := (HM.out w1 (by exact ⟨hb1.os, hb1.tape, hb1.output, hb1.size, hb1.block⟩)).1)
      | (go_at_call 45; refine (above_any _ _ _ HX0.out).mono ?_; rintro e w2 ⟨rfl, hb2⟩; have hb12 := Below.trans hb1 (hb2.mono hb1.size); have hF := HM.out w2 (by exact ⟨hb12.os, hb12.tape, hb12.output, hb12.size, hb12.block⟩); have hS2 := hF.1)))
    go_wp2
    go_ret
    exact ⟨rfl, hF.2⟩
  · have hd : decide (yb < xb) = false := decide_eq_false h
    rw [hd, Bool.false_and]
    go_enter Try.func46, Try.ntmps46
    go_wp2
    go_quiet (fail)
    go_wp2
    go_ret
    exact ⟨rfl, (HM.out _ (by exact ⟨rfl, rfl, rfl, Nat.le_refl _, fun _ _ => rfl⟩)).2⟩
end Go.Proofs.Ytnnljdnaipjoiaa
