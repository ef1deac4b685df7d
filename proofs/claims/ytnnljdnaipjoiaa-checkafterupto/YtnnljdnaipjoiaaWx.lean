/- CheckSaw: the walk. -/
import Derived.Test.YtnnljdnaipjoiaaMh
import Derived.Test.YtnnljdnaipjoiaaTw
namespace Go.Proofs.Ytnnljdnaipjoiaa
set_option linter.unusedSimpArgs false
set_option linter.unusedVariables false
open Go.RowKit
theorem costL_le (l : List Sp) (k : Nat) : costL (l.take k) ≤ costL l := by
  unfold costL
  have h := congrArg List.sum (congrArg (List.map costS) (List.take_append_drop k l))
  rw [List.map_append, List.sum_append] at h
  omega
/-- What fetches have left. -/
def sawL : List Sp → LS → LS
  | [], S => S
  | s :: r, S => sawL r (saw S (s.tp, s.pt) s.st s.nx s.fr (bsOf s.ss)).2
theorem sawL_snoc (l : List Sp) (s : Sp) (S : LS) : sawL (l ++ [s]) S = (saw (sawL l S) (s.tp, s.pt) s.st s.nx s.fr (bsOf s.ss)).2 := by
  induction l generalizing S with
  | nil => rfl
  | cons x r ih => exact ih _
theorem sawL_take (l : List Sp) (k : Nat) (h : k < l.length) (S : LS) : sawL (l.take (k + 1)) S = (saw (sawL (l.take k) S) ((l.getD k spz).tp, (l.getD k spz).pt) (l.getD k spz).st (l.getD k spz).nx (l.getD k spz).fr (bsOf (l.getD k spz).ss)).2 := by
  rw [List.take_succ_eq_append_getElem h, sawL_snoc]
  simp [List.getD, h]
/-- Both sides know the same. -/
structure Both (B : Nat) (w0 : World) (p q N : Nat) (S : LS) (y : World) : Prop where
  log : AwK B w0 p S y
  chk : CkS B q N S y
theorem Both.bel {B : Nat} {w0 : World} {p q N : Nat} {S : LS} {y : World} (h : Both B w0 p q N S y) : Below B w0 y := h.log.bel
theorem Both.below {B : Nat} {w0 : World} {p q N : Nat} {S : LS} {y z : World} (h : Both B w0 p q N S y) (hb : Below y.heap.size y z) : Both B w0 p q N S z := ⟨h.log.below hb, h.chk.below hb⟩
theorem six_kept {y z : World} {b : Nat} {cs : Array Value} {t : TypeId} (h : y.heap[b]? = some (.cells cs t (0, 0))) (ht : TKeep y z) (hn : t ≠ 59) : z.heap[b]? = some (.cells cs t (0, 0)) := ht b cs t h hn
theorem mk_kept {B : Nat} {y z : World} {b : Nat} {cs : Array Value} {t : TypeId} (h : y.heap[b]? = some (.cells cs t (0, 0))) (hm : MKeep B y z) (hn : ¬ mineT t) : z.heap[b]? = some (.cells cs t (0, 0)) :=
  hm.blk b _ h fun ⟨_, cs', t', f, e, ht⟩ => by
    injection e with e1 e2 e3
    subst e2
    exact hn ht
/-- The program's side looks at a fetch. -/
theorem both_prog {B : Nat} {w0 : World} {p q N : Nat} {S : LS} {y : World} (h : AwK B w0 p S y) (hq : CkS B q N S y) (tp : ByteArray) (pt st nx fr : Int) (a : Option Addr) (cap : Nat) (ss : List Bs) (hi : BIn y a ss) (ht : tp.size ≤ 281474976710656) :
    Calls Try.prog 11 #[.pointer (some ⟨p, 0, none⟩), .string tp, .int .i64 pt, .int .i64 st, .int .i64 nx, .int .i64 fr, .slice a ss.length cap] y fun e z => e = .returned (.int .i64 (saw S (tp, pt) st nx fr (bsOf ss)).1) ∧ AwK B w0 p (saw S (tp, pt) st nx fr (bsOf ss)).2 z ∧ CkS B q N S z ∧ TKeep y z :=
  (awk_sawT h tp pt st nx fr a cap ss hi ht).mono fun e z ⟨h1, h2, h3⟩ => ⟨h1, h2, hq.tk h3, h3⟩
/-- The document's side looks at it. -/
theorem both_doc {B : Nat} {w0 : World} {p q N : Nat} {S T : LS} {y : World} (h : AwK B w0 p T y) (hq : CkS B q N S y) (tp : ByteArray) (pt st nx fr : Int) (a : Option Addr) (cap : Nat) (ss : List Bs) (hi : ∀ z, MKeep B y z → BIn z a ss) (hN : N + (1 + ss.length + sumR ss) ≤ 1000000) :
    Calls Try.prog 12 #[.pointer (some ⟨q, 0, none⟩), .string tp, .int .i64 pt, .int .i64 st, .int .i64 nx, .int .i64 fr, .slice a ss.length cap] y fun e z => e = .returned (.int .i64 (saw S (tp, pt) st nx fr (bsOf ss)).1) ∧ AwK B w0 p T z ∧ CkS B q (N + (1 + ss.length + sumR ss)) (saw S (tp, pt) st nx fr (bsOf ss)).2 z ∧ MKeep B y z :=
  (msaw_any tp pt st nx fr a cap ss y hq (by obtain ⟨_, _, _, _, _, _, h4⟩ := h; exact h4) hi hN).mono fun e z ⟨h1, h2, h3⟩ => ⟨h1, h.mkeep h3 (Nat.le_refl _), h2, h3⟩
set_option maxHeartbeats 4000000 in
set_option maxRecDepth 100000 in
theorem checkSaw_walk (a0 : Option Addr) (cap0 : Nat) (l0 : List Sp) (w : World) (hu : SsUp w a0 l0) (hlc : l0.length ≤ cap0) (hcm : cap0 ≤ maxLen) (hn0 : a0 = none → cap0 = 0) :
    Calls Try.prog 3 #[.slice a0 l0.length cap0] w fun e w' => e = .returned (.bool true) ∧ Below w.heap.size w w' := by
  have hl := hu.len
  unfold big at hl
  have HU : Hid (∀ y, Below w.heap.size w y → SsUp y a0 l0) := fun y hb => hu.below hb
  have HAWK : Hid (∀ y, Below w.heap.size w y → Calls Try.prog 9 #[] y fun e w' => e = .returned (.bool true) ∧ Below w.heap.size w w') := fun y hb => (awake_any y).mono fun e z ⟨h1, h2⟩ => ⟨h1, hb.trans (h2.mono hb.size)⟩
  have HSM : Hid (Calls Try.prog 8 #[.slice a0 l0.length cap0] w fun e w' => IsT (SmallC l0) e ∧ Below w.heap.size w w') := small_cost a0 cap0 l0 w hu
  have HTL : Hid (∀ y, Below w.heap.size w y → Both w.heap.size w y.heap.size (y.heap.size + 1) 0 ls0 ((y.alloc (.cells #[.map none, .map none, .map none] 59)).alloc (.cells #[.slice none 0 0, .slice none 0 0, .slice none 0 0] 32))) := fun y hb => by
    have h1 : AwK w.heap.size w y.heap.size ls0 (y.alloc (.cells #[.map none, .map none, .map none] 59)) := AwK.zero hb hb.size
    have h2 : CkS w.heap.size (y.alloc (.cells #[.map none, .map none, .map none] 59)).heap.size 0 ls0 ((y.alloc (.cells #[.map none, .map none, .map none] 59)).alloc (.cells #[.slice none 0 0, .slice none 0 0, .slice none 0 0] 32)) := CkS.zero (by have := hb.size; simp; omega)
    rw [show (y.alloc (.cells #[.map none, .map none, .map none] 59)).heap.size = y.heap.size + 1 by simp] at h2
    exact ⟨h1.below (below_box _), h2⟩
  clear hu hlc hcm hn0
  have tokA : True := trivial
  go_enter Try.func3, Try.ntmps3
  go_wp2_with (first
    | (go_at_call 8; refine Calls.mono HSM.out ?_; rintro e w1 ⟨⟨sb, rfl, hsb⟩, hb1⟩; have HB1 : Hid (Below w.heap.size w w1) := hb1; have HSB : Hid (sb = true → SmallC l0) := hsb; clear hb1 hsb; cases sb)
    | (go_at_call 9; have _t := tokA; refine (HAWK.out _ HB1.out).mono ?_; rintro e w9 ⟨rfl, hb9⟩; clear _t tokA)
    | (go_at_call 10; refine (new_any _).mono ?_; rintro e w2 ⟨rfl, hw2⟩; subst hw2))
  · go_ret
    exact ⟨rfl, hb9⟩
  · have HSL : Hid (SmallC l0) := HSB.out (by first | rfl | trivial)
    clear HSB
    go_loopw [5] (fun i wr => ∃ (k : Nat), k ≤ l0.length ∧ i = .int .i64 k ∧ Both w.heap.size w w1.heap.size (w1.heap.size + 1) (costL (l0.take k)) (sawL (l0.take k) ls0) wr) (fun i _ => l0.length - (intOf i).toNat)
    case atStart => exact ⟨0, by omega, rfl, HTL.out w1 HB1.out⟩
    case round =>
      obtain ⟨k, hk, rfl, hbo⟩ := hrel
      by_cases hlt : k < l0.length
      · have hltI : (k : Int) < (l0.length : Int) := by omega
        have hbw := hbo.bel
        obtain ⟨g, off, rfl, c0, c1, c2, c3, c4, c5⟩ := (HU.out wr hbw).cells k hlt
        have HUP : Hid (∀ y, Below w.heap.size w y → SpUp y (l0.getD k spz)) := fun y hb => (HU.out y hb).each k hlt
        have HOK : Hid (StepOk (l0.getD k spz)) := HSL.out.ok k hlt
        have HCO : Hid (costL (l0.take (k + 1)) = costL (l0.take k) + costS (l0.getD k spz)) := costL_snoc l0 k hlt
        have HC4 : Hid (costL (l0.take (k + 1)) ≤ 400) := Nat.le_trans (costL_le _ _) HSL.out.cost
        have HSW : Hid (sawL (l0.take (k + 1)) ls0 = _) := sawL_take l0 k hlt ls0
        generalize sawL (l0.take k) ls0 = S at *
        generalize costL (l0.take k) = N at *
        generalize l0.getD k spz = s at *
        obtain ⟨tp, pt, st, nx, fr, ss, sa, sc⟩ := s
        simp only at c0 c1 c2 c3 c4 c5
        have ht1 : tp.size ≤ 281474976710656 := by have h : tp.size ≤ big := (HUP.out wr hbw).t; unfold big at h; omega
        have htb : tp.size ≤ 1048576 := (HUP.out wr hbw).t
        have HIN : Hid (∀ y, Below w.heap.size w y → BIn y sa ss) := fun y hb => BIn.of_up (HUP.out y hb).b HOK.out.b
        have hco : N + (1 + ss.length + sumR ss) ≤ 1000000 := by
          have h1 := HCO.out
          have h2 := HC4.out
          unfold costS at h1
          simp only at h1
          omega
        have HB0 : Hid (Both w.heap.size w w1.heap.size (w1.heap.size + 1) N S (wr.alloc (.cells #[.string tp, .int .i64 pt, .int .i64 st, .int .i64 nx, .int .i64 fr, .slice sa ss.length sc] 35))) := hbo.below (below_box _)
        have HX0 : Hid ((wr.alloc (.cells #[.string tp, .int .i64 pt, .int .i64 st, .int .i64 nx, .int .i64 fr, .slice sa ss.length sc] 35)).heap[wr.heap.size]? = some (.cells #[.string tp, .int .i64 pt, .int .i64 st, .int .i64 nx, .int .i64 fr, .slice sa ss.length sc] 35 (0, 0))) := heap_alloc_new wr _
        have HS0 : Hid (∀ y : World, y.heap[wr.heap.size]? = some (.cells #[.string tp, .int .i64 pt, .int .i64 st, .int .i64 nx, .int .i64 fr, .slice sa ss.length sc] 35 (0, 0)) → y.cell? ⟨wr.heap.size, 0, none⟩ = some (.string tp) ∧ y.cell? ⟨wr.heap.size, 1, none⟩ = some (.int .i64 pt) ∧ y.cell? ⟨wr.heap.size, 2, none⟩ = some (.int .i64 st) ∧ y.cell? ⟨wr.heap.size, 3, none⟩ = some (.int .i64 nx) ∧ y.cell? ⟨wr.heap.size, 4, none⟩ = some (.int .i64 fr) ∧ y.cell? ⟨wr.heap.size, 5, none⟩ = some (.slice sa ss.length sc)) := fun y h => six_cells' h
        have HS1 : Hid (∀ y : World, Below (wr.alloc (.cells #[.string tp, .int .i64 pt, .int .i64 st, .int .i64 nx, .int .i64 fr, .slice sa ss.length sc] 35)).heap.size (wr.alloc (.cells #[.string tp, .int .i64 pt, .int .i64 st, .int .i64 nx, .int .i64 fr, .slice sa ss.length sc] 35)) y → Calls Try.prog 11 #[.pointer (some ⟨w1.heap.size, 0, none⟩), .string tp, .int .i64 pt, .int .i64 st, .int .i64 nx, .int .i64 fr, .slice sa ss.length sc] y fun e z => e = .returned (.int .i64 (saw S (tp, pt) st nx fr (bsOf ss)).1) ∧ AwK w.heap.size w w1.heap.size (saw S (tp, pt) st nx fr (bsOf ss)).2 z ∧ CkS w.heap.size (w1.heap.size + 1) N S z ∧ z.heap[wr.heap.size]? = some (.cells #[.string tp, .int .i64 pt, .int .i64 st, .int .i64 nx, .int .i64 fr, .slice sa ss.length sc] 35 (0, 0))) := fun y hb => by
          have hy := HB0.out.below hb
          have hxy := (hb.block _ (Array.getElem?_eq_some_iff.1 HX0.out).1).trans HX0.out
          exact (both_prog hy.log hy.chk tp pt st nx fr sa sc ss (HIN.out y hy.bel) ht1).mono fun e z ⟨h1, h2, h3, h4⟩ => ⟨h1, h2, h3, h4 _ _ _ hxy (by decide)⟩
        have HS3 : Hid (∀ y : World, AwK w.heap.size w w1.heap.size (saw S (tp, pt) st nx fr (bsOf ss)).2 y → CkS w.heap.size (w1.heap.size + 1) N S y → y.heap[wr.heap.size]? = some (.cells #[.string tp, .int .i64 pt, .int .i64 st, .int .i64 nx, .int .i64 fr, .slice sa ss.length sc] 35 (0, 0)) → Calls Try.prog 12 #[.pointer (some ⟨w1.heap.size + 1, 0, none⟩), .string tp, .int .i64 pt, .int .i64 st, .int .i64 nx, .int .i64 fr, .slice sa ss.length sc] y fun e z => e = .returned (.int .i64 (saw S (tp, pt) st nx fr (bsOf ss)).1) ∧ Both w.heap.size w w1.heap.size (w1.heap.size + 1) (costL (l0.take (k + 1))) (sawL (l0.take (k + 1)) ls0) z ∧ z.heap[wr.heap.size]? = some (.cells #[.string tp, .int .i64 pt, .int .i64 st, .int .i64 nx, .int .i64 fr, .slice sa ss.length sc] 35 (0, 0))) := fun y h1 h2 h3 =>
          (both_doc h1 h2 tp pt st nx fr sa sc ss (fun z hz => HIN.out z (h1.mkeep hz (Nat.le_refl _)).bel) hco).mono fun e z ⟨q1, q2, q3, q4⟩ => ⟨q1, ⟨by rw [HSW.out]; exact q2, by rw [HSW.out, HCO.out]; exact q3⟩, mk_kept h3 q4 (by unfold mineT; decide)⟩
        have hS0 := HS0.out (wr.alloc (.cells #[.string tp, .int .i64 pt, .int .i64 st, .int .i64 nx, .int .i64 fr, .slice sa ss.length sc] 35)).drew HX0.out
        generalize saw S (tp, pt) st nx fr (bsOf ss) = Q1 at *
        obtain ⟨r1, T1⟩ := Q1
        clear HUP HOK HIN HCO HC4 HSW hbo hbw
        go_wp2
        go_region_held3 (fun y : World => y.cell? ⟨wr.heap.size, 0, none⟩ = some (.string tp) ∧ y.cell? ⟨wr.heap.size, 1, none⟩ = some (.int .i64 pt) ∧ y.cell? ⟨wr.heap.size, 2, none⟩ = some (.int .i64 st) ∧ y.cell? ⟨wr.heap.size, 3, none⟩ = some (.int .i64 nx) ∧ y.cell? ⟨wr.heap.size, 4, none⟩ = some (.int .i64 fr) ∧ y.cell? ⟨wr.heap.size, 5, none⟩ = some (.slice sa ss.length sc)) (first | exact hS2 | exact hS1 | exact hS0) ((first
          | (go_at_call 11; refine (HS1.out _ (below_drewN (Below.refl _ _) 1)).mono ?_; rintro e y1 ⟨rfl, hA1, hC1, hX1⟩; have hS1 := HS0.out y1 hX1)
          | (go_at_call 12; refine (HS3.out _ hA1 hC1 hX1).mono ?_; rintro e y2 ⟨rfl, hB2, hX2⟩; have hS2 := HS0.out y2 hX2)))
        clear hS0 hS1 hS2 hA1 hC1 hX1 hX2
        go_wp2
        exact ⟨⟨k + 1, by omega, by go_num, hB2⟩, by simp [intOf]; omega⟩
      · obtain rfl : k = l0.length := by omega
        have hbw := hbo.bel
        go_wp2_with (go_at_call 9; refine (HAWK.out _ hbw).mono ?_; rintro e w9 ⟨rfl, hb9⟩)
        go_ret
        exact ⟨rfl, hb9⟩
end Go.Proofs.Ytnnljdnaipjoiaa
