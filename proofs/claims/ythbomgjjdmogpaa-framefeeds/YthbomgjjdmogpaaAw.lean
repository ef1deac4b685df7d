/- awake; what the laws share. -/
import Derived.Test.YthbomgjjdmogpaaSa
import Derived.Laws.BytesArg
namespace Go.Proofs.Ythbomgjjdmogpaa
set_option linter.unusedSimpArgs false
set_option linter.unusedVariables false
open Go.RowKit
def strN (l : List Nat) : ByteArray := strOfNums (l.map fun (c : Nat) => (c : Int))
theorem conv_row {w : World} {a : Option Addr} {l : List Nat} (cap : Nat) (hr : Row w a l) : (convert 23 9 (.slice a l.length cap)).run Try.prog w = .ok (.string (strN l)) w := by
  by_cases h0 : 0 < l.length
  · obtain ⟨b, off, rfl, _, _⟩ := hr 0 h0
    refine run_convert_bytes_arg (P := Try.prog) w 23 5 Try.underlying23 Try.underlying5 b off l.length cap (l.map fun (c : Nat) => (c : Int)) (by simp) ?_ 9 Try.underlying9
    intro i hi
    obtain ⟨b', off', e, hc, _⟩ := hr i hi
    simp only [Option.some.injEq, Addr.mk.injEq, and_true] at e
    obtain ⟨rfl, rfl⟩ := e
    rw [hc]
    simp [List.getD, hi]
  · obtain rfl : l = [] := List.eq_nil_of_length_eq_zero (by omega)
    rw [run_convert_bytes_string w 23 9 5 _ _ cap Try.underlying23 Try.underlying5 Try.underlying9]
    cases a <;> simp [Conv.bytesToString, loadCells, strN, strOfNums]
    all_goals rfl
theorem fr_a : frames [0, 0] = ([], true, [0, 0]) := by decide
theorem fr_b : frames ([0, 0] ++ [0, 1, 97, 0]) = ([[97]], true, [0]) := by decide
theorem ine_new {w : World} {E : List Nat} {l : List Nat} (h : ∀ i, l.getD i 0 < 256) (hE : ∀ x ∈ E, x < w.heap.size) (hm : l.length ≤ maxLen) : InE (w.alloc (.cells (cv l).toArray 5)) E (some ⟨w.heap.size, 0, none⟩) l.length l := by
  refine ⟨row_alloc w l h, Nat.le_refl _, hm, (fun e => by cases e), fun _ x hx hm => ?_⟩
  injection hx with hx
  subst hx
  have := hE _ hm
  simp only at this
  omega
theorem FeIs.below {w w' : World} {B p : Nat} {v : Value} {q : List Nat} {sh : Bool} (h : FeIs w B p v q sh) (hb : Below w.heap.size w w') : FeIs w' B p v q sh := h.keeps (Keeps.of_below hb []) (by simp)
theorem FeIs.base {w : World} {B B' p : Nat} {v : Value} {q : List Nat} {sh : Bool} (h : FeIs w B p v q sh) (hb : B' ≤ B) : FeIs w B' p v q sh := by
  refine ⟨h.ex, h.lt, ?_, by have := h.ge; omega, h.rest, h.off⟩
  rcases h.body with q | ⟨g, e, ho, h4⟩
  · exact .inl q
  · exact .inr ⟨g, e, owns_base ho hb, h4⟩
/-- New: a Feeder that is empty. -/
theorem new_fe (B : Nat) (W w : World) (hb : Below B W w) (hB : B ≤ w.heap.size) : Calls Try.prog 11 #[] w fun e w' => ∃ p, e = .returned (.pointer (some ⟨p, 0, none⟩)) ∧ w.heap.size ≤ p ∧ FeIs w' B p (.slice none 0 0) [] false ∧ Below w.heap.size w w' ∧ Below B W w' := by
  refine (new_any w).mono ?_
  rintro e w' ⟨rfl, rfl⟩
  exact ⟨w.heap.size, rfl, Nat.le_refl _, (zc_fe (heap_alloc_new w _) (Nat.le_refl _)).base hB, below_box _, hb.trans ((below_box _).mono hB)⟩
theorem small_lt {l : List Nat} (n : Nat) (h : l.length = n) (hl : ∀ i, i < n → l.getD i 0 < 256) : ∀ i, l.getD i 0 < 256 := by
  intro i
  by_cases hi : i < n
  · exact hl i hi
  · rw [getD_out _ _ (by omega)]; omega
theorem FDP.below {W w w' : World} {B p : Nat} {v : Value} {q : List Nat} {sh : Bool} {F : List Nat} (h : FeIs w B p v q sh) (hk : Keeps (fp p v) w w') (hb : Below B W w) (hB : B ≤ w.heap.size) : Below B W w' :=
  hb.trans (hk.below (fun x hx => (h.lts x hx).1) hB)
theorem below_drewN {B : Nat} {a w : World} (h : Below B a w) (n : Nat) : Below B a (w.drewN n) := ⟨h.os, h.tape, h.output, h.size, h.block⟩
set_option maxHeartbeats 800000 in
set_option maxRecDepth 100000 in
theorem awake_any (w : World) : Calls Try.prog 10 #[] w fun e w' => e = .returned (.bool true) ∧ Below w.heap.size w w' := by
  have HN : Hid (Calls Try.prog 11 #[] w fun e w' => ∃ p, e = .returned (.pointer (some ⟨p, 0, none⟩)) ∧ w.heap.size ≤ p ∧ FeIs w' w.heap.size p (.slice none 0 0) [] false ∧ Below w.heap.size w w' ∧ Below w.heap.size w w') := new_fe w.heap.size w w (Below.refl _ _) (Nat.le_refl _)
  obtain ⟨B, HB⟩ : ∃ B, Hid (w.heap.size = B) := ⟨_, rfl⟩
  rw [HB.out] at HN ⊢
  have HF1 : Hid (∀ (w1 : World) (p : Nat), FeIs w1 B p (.slice none 0 0) [] false → Below B w w1 → Calls Try.prog 12 #[.pointer (some ⟨p, 0, none⟩), .slice (some ⟨w1.heap.size, 0, none⟩) 2 2] (w1.alloc (.cells #[.int .u8 0, .int .u8 0] 5)) fun e w2 => ∃ a1 c1 v2, e = .returned (.tuple #[.slice a1 0 c1, .bool true]) ∧ FeIs w2 B p v2 [0, 0] false ∧ Below B w w2) := by
    intro w1 p h1 hb
    have hs := hb.size
    rw [HB.out] at hs
    have hi : InE (w1.alloc (.cells #[.int .u8 0, .int .u8 0] 5)) (fp p (.slice none 0 0)) (some ⟨w1.heap.size, 0, none⟩) 2 [0, 0] := ine_new (l := [0, 0]) (small_lt 2 rfl (by decide)) (fun x hx => (h1.lts x hx).2) (by unfold maxLen; simp)
    have h2 := h1.below (below_box (.cells #[.int .u8 0, .int .u8 0] 5))
    have hb2 : Below B w (w1.alloc (.cells #[.int .u8 0, .int .u8 0] 5)) := hb.alloc hs _
    refine (feed_any B p _ [] false _ 2 [0, 0] _ h2 hi (by simp; omega) (by simp)).mono ?_
    rintro e w2 ⟨T, fs, v2, rfl, ho, hfs, hall, hfe, hk, _⟩
    have hr : feedS false [] [0, 0] = ([], true, [0, 0]) := fr_a
    rw [hr] at hfs hfe ⊢
    obtain rfl : fs = [] := by simpa using hfs
    obtain ⟨a1, c1, rfl, _⟩ := owns_frs ho
    exact ⟨a1, c1, v2, rfl, hfe, FDP.below (F := []) h2 hk hb2 (by simp; omega)⟩
  have HF2 : Hid (∀ (w1 : World) (p : Nat) (v : Value), FeIs w1 B p v [0, 0] false → Below B w w1 → Calls Try.prog 12 #[.pointer (some ⟨p, 0, none⟩), .slice (some ⟨w1.heap.size, 0, none⟩) 4 4] (w1.alloc (.cells #[.int .u8 0, .int .u8 1, .int .u8 97, .int .u8 0] 5)) fun e w2 => ∃ g off c1 fa fc v2, e = .returned (.tuple #[.slice (some ⟨g, off, none⟩) 1 c1, .bool true]) ∧ w2.cell? ⟨g, off, none⟩ = some (.slice fa 1 fc) ∧ Row w2 fa [97] ∧ FeIs w2 B p v2 [0] false ∧ Below B w w2) := by
    intro w1 p v h1 hb
    have hs := hb.size
    rw [HB.out] at hs
    have hi : InE (w1.alloc (.cells #[.int .u8 0, .int .u8 1, .int .u8 97, .int .u8 0] 5)) (fp p v) (some ⟨w1.heap.size, 0, none⟩) 4 [0, 1, 97, 0] := ine_new (l := [0, 1, 97, 0]) (small_lt 4 rfl (by decide)) (fun x hx => (h1.lts x hx).2) (by unfold maxLen; simp)
    have h2 := h1.below (below_box (.cells #[.int .u8 0, .int .u8 1, .int .u8 97, .int .u8 0] 5))
    have hb2 : Below B w (w1.alloc (.cells #[.int .u8 0, .int .u8 1, .int .u8 97, .int .u8 0] 5)) := hb.alloc hs _
    refine (feed_any B p _ [0, 0] false _ 4 [0, 1, 97, 0] _ h2 hi (by simp; omega) (by simp)).mono ?_
    rintro e w2 ⟨T, fs, v2, rfl, ho, hfs, hall, hfe, hk, _⟩
    have hr : feedS false [0, 0] [0, 1, 97, 0] = ([[97]], true, [0]) := fr_b
    rw [hr] at hfs hfe ⊢
    match fs, hfs, ho, hall with
    | [⟨fa, fc, fb⟩], hfs, ho, hall =>
      obtain rfl : fb = [97] := by simpa using hfs
      obtain ⟨a1, c1, rfl, hc, _⟩ := owns_frs ho
      obtain ⟨g, off, rfl, hc1⟩ := hc 0 (by simp)
      exact ⟨g, off, c1, fa, fc, v2, rfl, hc1, (hall ⟨fa, fc, [97]⟩ (by simp)).1, hfe, FDP.below (F := []) h2 hk hb2 (by simp; omega)⟩
  have hstr : ((strN [97]).toList == [97]) = true := by kernel_rfl
  go_enter Try.func10, Try.ntmps10
  go_wp2_with (first
    | (go_at_call 11; refine Calls.mono HN.out ?_; rintro e w1 ⟨p, rfl, hp, hf1, hb1, hb1'⟩; have HFE1 : Hid (FeIs w1 B p (.slice none 0 0) [] false ∧ Below B w w1) := ⟨hf1, hb1⟩; clear hf1 hb1 hb1')
    | (go_at_call 12; have _t := HFE1; refine (HF1.out w1 p HFE1.out.1 HFE1.out.2).mono ?_; rintro e w2 ⟨a1, c1, v2, rfl, hf2, hb2⟩; have HFE2 : Hid (FeIs w2 B p v2 [0, 0] false ∧ Below B w w2) := ⟨hf2, hb2⟩; clear hf2 hb2 _t HFE1)
    | (go_at_call 12; have _t := HFE2; refine (HF2.out w2 p v2 HFE2.out.1 HFE2.out.2).mono ?_; rintro e w3 ⟨g, off, c3, fa, fc, v3, rfl, hc3, hr3, hf3, hb3⟩; have HFE3 : Hid (FeIs w3 B p v3 [0] false ∧ Below B w w3 ∧ Row w3 fa [97]) := ⟨hf3, hb3, hr3⟩; have kc : (convert 23 9 (.slice fa 1 fc)).run Try.prog w3 = .ok (.string (strN [97])) w3 := conv_row fc hr3; have HW3 : Hid _ := waiting_any B p v3 [0] false w3 hf3; clear hf3 hb3 hr3 _t HFE2)
    | (go_at_call 15; refine Calls.mono HW3.out ?_; rintro e w4 ⟨rfl, nn, hw4⟩; subst w4))
  go_ret
  exact ⟨rfl, below_drewN HFE3.out.2.1 nn⟩
end Go.Proofs.Ythbomgjjdmogpaa
