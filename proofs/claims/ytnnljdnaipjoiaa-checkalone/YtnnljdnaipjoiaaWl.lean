/- CheckAlone: the walk. -/
import Derived.Test.YtnnljdnaipjoiaaTw
import Derived.Test.YtnnljdnaipjoiaaXr
namespace Go.Proofs.Ytnnljdnaipjoiaa
set_option linter.unusedSimpArgs false
set_option linter.unusedVariables false
open Go.RowKit
theorem small_str (t : ByteArray) (h : t.size ≤ reachBytes) : t.size ≤ 281474976710656 ∧ (tx t).size ≤ 281474976710656 := by
  have ht := reach_top
  have : (tx t).size = t.size + 1 := by unfold tx; rw [ByteArray.size_append]; rfl
  omega
set_option maxHeartbeats 4000000 in
set_option maxRecDepth 100000 in
theorem checkAlone_walk (a0 : Option Addr) (cap0 : Nat) (l0 : List Sp) (w : World) (hu : SsUp w a0 l0) (hlc : l0.length ≤ cap0) (hcm : cap0 ≤ maxLen) (hn0 : a0 = none → cap0 = 0) :
    Calls Try.prog 5 #[.slice a0 l0.length cap0] w fun e w' => e = .returned (.bool true) ∧ Below w.heap.size w w' := by
  have hl := hu.len
  unfold maxLen at hl
  have HU : Hid (∀ y, Below w.heap.size w y → SsUp y a0 l0) := fun y hb => hu.below hb
  have HAWK : Hid (∀ y, Below w.heap.size w y → Calls Try.prog 9 #[] y fun e w' => e = .returned (.bool true) ∧ Below w.heap.size w w') := fun y hb => (awake_any y).mono fun e z ⟨h1, h2⟩ => ⟨h1, hb.trans (h2.mono hb.size)⟩
  have HSM : Hid (Calls Try.prog 8 #[.slice a0 l0.length cap0] w fun e w' => IsB e ∧ Below w.heap.size w w') := small_any a0 cap0 l0 w hu
  have HTL : Hid (∀ y, Below w.heap.size w y → TwoL w.heap.size w y.heap.size ls0 (y.heap.size + 1) ls0 ((y.alloc (.cells #[.map none, .map none, .map none] 59)).alloc (.cells #[.map none, .map none, .map none] 59))) := fun y hb => TwoL.start hb hb.size
  clear hu hlc hcm hn0
  have tokA : True := trivial
  go_enter Try.func5, Try.ntmps5
  go_wp2_with (first
    | (go_at_call 8; refine Calls.mono HSM.out ?_; rintro e w1 ⟨⟨sb, rfl⟩, hb1⟩; have HB1 : Hid (Below w.heap.size w w1) := hb1; clear hb1; cases sb)
    | (go_at_call 9; have _t := tokA; refine (HAWK.out _ HB1.out).mono ?_; rintro e w9 ⟨rfl, hb9⟩; clear _t tokA)
    | (go_at_call 10; refine (new_any _).mono ?_; rintro e w2 ⟨rfl, hw2⟩; subst hw2))
  · go_ret
    exact ⟨rfl, hb9⟩
  · go_loopw [5] (fun i wr => ∃ (k : Nat) (S1 S2 : LS), k ≤ l0.length ∧ i = .int .i64 k ∧ RelX S1 S2 ∧ TwoL w.heap.size w w1.heap.size S1 (w1.heap.size + 1) S2 wr) (fun i _ => l0.length - (intOf i).toNat)
    case atStart => exact ⟨0, ls0, ls0, by omega, rfl, RelX.zero, HTL.out w1 HB1.out⟩
    case round =>
      obtain ⟨k, S1, S2, hk, rfl, hrx, htl⟩ := hrel
      by_cases hlt : k < l0.length
      · have hltI : (k : Int) < (l0.length : Int) := by omega
        have hbw := htl.bel
        obtain ⟨g, off, rfl, c0, c1, c2, c3, c4, c5⟩ := (HU.out wr hbw).cells k hlt
        have HUP : Hid (∀ y, Below w.heap.size w y → SpUp y (l0.getD k spz)) := fun y hb => (HU.out y hb).each k hlt
        generalize l0.getD k spz = s at *
        obtain ⟨tp, pt, st, nx, fr, ss, sa, sc⟩ := s
        simp only at c0 c1 c2 c3 c4 c5
        obtain ⟨ht1, ht2⟩ := small_str tp (HUP.out wr hbw).t
        have hrt := reach_top
        have htb : tp.size ≤ 140737488355328 := by have : tp.size ≤ reachBytes := (HUP.out wr hbw).t; omega
        clear hrt
        have HNM : Hid (In64 fr ∧ In64 st ∧ In64 nx) := (HUP.out wr hbw).n
        have HIN : Hid (∀ y, Below w.heap.size w y → BIn y sa ss) := fun y hb => BIn.of_up (HUP.out y hb).b
        have HTW : Hid (TwoL w.heap.size w w1.heap.size S1 (w1.heap.size + 1) S2 (wr.alloc (.cells #[.string tp, .int .i64 pt, .int .i64 st, .int .i64 nx, .int .i64 fr, .slice sa ss.length sc] 35))) := htl.below (below_box _)
        have hw0 := heap_alloc_new wr (.cells #[.string tp, .int .i64 pt, .int .i64 st, .int .i64 nx, .int .i64 fr, .slice sa ss.length sc] 35)
        obtain ⟨f0, f1, f2, f3, f4, f5⟩ := six_cells' hw0
        have HRX := hrx.saw tp pt st nx fr (bsOf ss)
        have HR1 : Hid ((saw S1 (tp, pt) st nx fr (bsOf ss)).1 = (saw S2 (tx tp, pt) st nx fr (bsOf ss)).1) := HRX.1
        have HR2 : Hid (RelX (saw S1 (tp, pt) st nx fr (bsOf ss)).2 (saw (saw S2 (tx tp, pt) st nx fr (bsOf ss)).2 (other, pt) st nx fr []).2) := HRX.2.aside pt st nx fr
        clear HRX hrx htl
        have HS1 : Hid (Calls Try.prog 11 #[.pointer (some ⟨w1.heap.size, 0, none⟩), .string tp, .int .i64 pt, .int .i64 st, .int .i64 nx, .int .i64 fr, .slice sa ss.length sc] (wr.alloc (.cells #[.string tp, .int .i64 pt, .int .i64 st, .int .i64 nx, .int .i64 fr, .slice sa ss.length sc] 35)) fun e z => e = .returned (.int .i64 (saw S1 (tp, pt) st nx fr (bsOf ss)).1) ∧ TwoL w.heap.size w w1.heap.size (saw S1 (tp, pt) st nx fr (bsOf ss)).2 (w1.heap.size + 1) S2 z ∧ CKeep (wr.alloc (.cells #[.string tp, .int .i64 pt, .int .i64 st, .int .i64 nx, .int .i64 fr, .slice sa ss.length sc] 35)) z) := HTW.out.saw tp pt st nx fr sa sc ss (HIN.out _ HTW.out.bel) ht1 HNM.out
        have HS2 : Hid (∀ T1 y, TwoL w.heap.size w w1.heap.size T1 (w1.heap.size + 1) S2 y → Calls Try.prog 11 #[.pointer (some ⟨w1.heap.size + 1, 0, none⟩), .string (tp ++ ⟨#[120]⟩), .int .i64 pt, .int .i64 st, .int .i64 nx, .int .i64 fr, .slice sa ss.length sc] y fun e z => e = .returned (.int .i64 (saw S2 (tx tp, pt) st nx fr (bsOf ss)).1) ∧ TwoL w.heap.size w w1.heap.size T1 (w1.heap.size + 1) (saw S2 (tx tp, pt) st nx fr (bsOf ss)).2 z ∧ CKeep y z) := fun T1 y h => (h.swap.saw (tx tp) pt st nx fr sa sc ss (HIN.out _ h.bel) ht2 HNM.out).mono fun e z ⟨h1, h2, h3⟩ => ⟨h1, h2.swap, h3⟩
        have HS3 : Hid (∀ T1 T2 y, TwoL w.heap.size w w1.heap.size T1 (w1.heap.size + 1) T2 y → Calls Try.prog 11 #[.pointer (some ⟨w1.heap.size + 1, 0, none⟩), .string ⟨#[111, 116, 104, 101, 114]⟩, .int .i64 pt, .int .i64 st, .int .i64 nx, .int .i64 fr, .slice none 0 0] y fun e z => (∃ q, e = .returned (.int .i64 q)) ∧ TwoL w.heap.size w w1.heap.size T1 (w1.heap.size + 1) (saw T2 (other, pt) st nx fr []).2 z) := fun T1 T2 y h => (h.swap.saw other pt st nx fr none 0 [] (BIn.nil _ _) (by decide) HNM.out).mono fun e z ⟨h1, h2, h3⟩ => ⟨⟨_, h1⟩, h2.swap⟩
        generalize saw S1 (tp, pt) st nx fr (bsOf ss) = Q1 at *
        generalize saw S2 (tx tp, pt) st nx fr (bsOf ss) = Q2 at *
        obtain ⟨r1, T1⟩ := Q1
        obtain ⟨r2, T2⟩ := Q2
        obtain rfl : r1 = r2 := HR1.out
        simp only at HR2 HS1 HS2
        have tok1 : True := trivial
        have tok2 : True := trivial
        clear HR1 hw0 HUP HIN HTW ht1 ht2 HNM
        go_wp2_with (first
          | (have _t := tok1; go_at_call 11; refine Calls.mono HS1.out ?_; rintro e y1 ⟨rfl, hT1, hC1⟩; clear _t tok1; have f0 := hC1 _ _ _ f0 (fun m h => by cases h); have f1 := hC1 _ _ _ f1 (fun m h => by cases h); have f2 := hC1 _ _ _ f2 (fun m h => by cases h); have f3 := hC1 _ _ _ f3 (fun m h => by cases h); have f4 := hC1 _ _ _ f4 (fun m h => by cases h); have f5 := hC1 _ _ _ f5 (fun m h => by cases h))
          | (have _t := tok2; go_at_call 11; refine (HS2.out _ _ hT1).mono ?_; rintro e y2 ⟨rfl, hT2, hC2⟩; clear _t tok2; have f0 := hC2 _ _ _ f0 (fun m h => by cases h); have f1 := hC2 _ _ _ f1 (fun m h => by cases h); have f2 := hC2 _ _ _ f2 (fun m h => by cases h); have f3 := hC2 _ _ _ f3 (fun m h => by cases h); have f4 := hC2 _ _ _ f4 (fun m h => by cases h); have f5 := hC2 _ _ _ f5 (fun m h => by cases h))
          | (go_at_call 11; refine (HS3.out _ _ _ hT2).mono ?_; rintro e y3 ⟨⟨q3, rfl⟩, hT3⟩))
        exact ⟨⟨k + 1, T1, _, by omega, by go_num, HR2.out, hT3⟩, by simp [intOf]; omega⟩
      · obtain rfl : k = l0.length := by omega
        have hbw := htl.bel
        have HNI : Hid (∀ y, Calls Try.prog 11 #[.pointer none, .string ⟨#[97]⟩, .int .i64 0, .int .i64 5, .int .i64 1, .int .i64 0, .slice none 0 0] y fun e w' => e = .returned (.int .i64 0) ∧ w' = y) := fun y => saw_nil _ _ _ _ _ _ _ _ y
        go_wp2_with (first
          | (go_at_call 11; refine (HNI.out _).mono ?_; rintro e y1 ⟨rfl, hw⟩; subst hw)
          | (go_at_call 9; refine (HAWK.out _ hbw).mono ?_; rintro e w9 ⟨rfl, hb9⟩))
        go_ret
        exact ⟨rfl, hb9⟩
end Go.Proofs.Ytnnljdnaipjoiaa
