/- awake is true over the table, and the walk of CrcPieces: true for every argument. -/
import Derived.Test.YtkbimkpbpbjafaaDoorMor
import Derived.Lib.SlBytesConst
namespace Go.Proofs.YtkbimkpbpbjafaaDoor
set_option linter.unusedSimpArgs false
set_option linter.unusedVariables false
open Go.RowKit
theorem sum_nine : P.sum [49, 50, 51, 52, 53, 54, 55, 56, 57] = 3808858755 := by decide +kernel
theorem sum_nil : P.sum [] = 0 := by decide +kernel
theorem lt9 : ∀ i, [49, 50, 51, 52, 53, 54, 55, 56, 57].getD i 0 < 256 := by
  intro i
  by_cases h : i < 9
  · have : ∀ j : Fin 9, [49, 50, 51, 52, 53, 54, 55, 56, 57].getD j.val 0 < 256 := by decide
    exact this ⟨i, h⟩
  · rw [getD_out _ _ (by simp; omega)]; omega
theorem row_mark (w : World) (l : List Nat) (fr : Nat × Nat) (h : ∀ i, l.getD i 0 < 256) : Row (w.alloc (.cells (cv l).toArray 5 fr)) (some ⟨w.heap.size, 0, none⟩) l := by
  intro i hi
  refine ⟨w.heap.size, 0, rfl, ?_, h i⟩
  rw [cell_of_row _ w.heap.size (0 + i) (cv l).toArray 5 fr (heap_alloc_new w _)]
  simpa using cv_get l i hi
theorem row9 (w : World) (fr : Nat × Nat) : Row (w.alloc (.cells #[.int .u8 49, .int .u8 50, .int .u8 51, .int .u8 52, .int .u8 53, .int .u8 54, .int .u8 55, .int .u8 56, .int .u8 57] 5 fr)) (some ⟨w.heap.size, 0, none⟩) [49, 50, 51, 52, 53, 54, 55, 56, 57] := row_mark w _ fr lt9
theorem Tab.alloc {w : World} (h : Tab w) (o : Obj) : Tab (w.alloc o) := h.below ((Below.refl _ _).alloc (Nat.le_refl _) _)
set_option maxRecDepth 100000 in
theorem awake_any (w : World) (ht : Tab w) : Calls Tryd.prog 9 #[] w fun e w' => e = .returned (.bool true) ∧ Below w.heap.size w w' := by
  have kc := fun (w : World) (C : Array Value) (n c : Nat) => Lib.run_convert_bytes_const (P := Tryd.prog) w 22 5 C n c Tryd.underlying22 Tryd.underlying5
  go_enter Tryd.func9, Tryd.ntmps9
  go_wp2_with fail
  refine (sum_any (some ⟨w.heap.size, 0, none⟩) 9 [49, 50, 51, 52, 53, 54, 55, 56, 57] _ (ht.alloc _) (row9 w _) (by decide)).mono ?_
  rintro e w1 ⟨rfl, hw⟩; subst w1
  rw [sum_nine]
  go_wp2_with fail
  refine (sum_any none 0 [] _ (ht.alloc _) (Row.nil _ _) (by decide)).mono ?_
  rintro e w1 ⟨rfl, hw⟩; subst w1
  rw [sum_nil]
  go_wp2_with fail
  go_ret
  exact ⟨rfl, (Below.refl _ _).alloc (Nat.le_refl _) _⟩
theorem Row.cut {w : World} {b off : Nat} {l : List Nat} (h : Row w (some ⟨b, off, none⟩) l) (k n : Nat) : Row w (some ⟨b, off + k, none⟩) ((l.drop k).take n) := by
  intro i hi
  have hi2 : k + i < l.length ∧ i < n := by simp at hi; omega
  obtain ⟨b', off', e, hc, hl⟩ := h (k + i) hi2.1
  simp only [Option.some.injEq, Addr.mk.injEq, and_true] at e
  obtain ⟨rfl, rfl⟩ := e
  have e2 : ((l.drop k).take n).getD i 0 = l.getD (k + i) 0 := by simp [List.getD, List.getElem?_take, hi2.2]
  rw [e2]
  exact ⟨b, off + k, rfl, by rw [Nat.add_assoc]; exact hc, hl⟩
theorem more_drop (c : Nat) (l : List Nat) (k n : Nat) : P.more c (l.drop k) = P.more (P.more c ((l.drop k).take n)) (l.drop (k + n)) := by
  rw [P.more_append, show l.drop (k + n) = (l.drop k).drop n by rw [List.drop_drop], List.take_append_drop]
theorem more_nil (c : Nat) : P.more c [] = c := by
  unfold P.more P.reg
  rw [List.foldl_nil, ← Nat.xor_assoc, Nat.xor_self, Nat.zero_xor]
theorem eqI (x : Int) : (x == x) = true := by simp
set_option maxRecDepth 100000 in
theorem crcPieces_walk (a0 : Option Addr) (cap0 : Nat) (l0 : List Nat) (a1 : Int) (w : World) (ht : Tab w) (w0 : Row w a0 l0) (m0 : l0.length ≤ maxLen) (c0 : l0.length ≤ cap0) (n0 : a0 = none → cap0 = 0) (w1 : (Lit.int .i64 a1).wf = true) :
    Calls Tryd.prog 7 #[.slice a0 l0.length cap0, .int .i64 a1] w fun e w' => e = .returned (.bool true) ∧ Below w.heap.size w w' := by
  clear n0
  have hM := m0
  unfold maxLen at hM
  obtain ⟨b1, b2⟩ := bd64 w1
  clear w1
  by_cases h0 : 3000 < l0.length
  · have h0I : 3000 < (l0.length : Int) := by omega
    go_enter Tryd.func7, Tryd.ntmps7
    go_wp2_with (go_at_call 9; refine (awake_any _ ht).mono ?_; rintro e w' ⟨rfl, hb⟩)
    go_ret
    exact ⟨rfl, by assumption⟩
  by_cases h1 : a1 < 1
  · have h0I : ¬ 3000 < (l0.length : Int) := by omega
    go_enter Tryd.func7, Tryd.ntmps7
    go_wp2_with (go_at_call 9; refine (awake_any _ ht).mono ?_; rintro e w' ⟨rfl, hb⟩)
    go_ret
    exact ⟨rfl, by assumption⟩
  have h0I : ¬ 3000 < (l0.length : Int) := by omega
  obtain ⟨S, HS⟩ : ∃ S, Hid (P.sum l0 = S) := ⟨_, rfl⟩
  have hbd := w0.bd
  go_enter Tryd.func7, Tryd.ntmps7
  go_wp2_with (go_at_call 10; refine (sum_any none 0 [] _ ht (Row.nil _ _) (by decide)).mono ?_; rintro e w1 ⟨rfl, hw⟩; subst w1; rw [sum_nil])
  go_loop [5, 6] (fun v i => ∃ (k C : Nat), k ≤ l0.length ∧ v = .int .u32 C ∧ i = .int .i64 k ∧ C < 4294967296 ∧ P.more C (l0.drop k) = S) (fun _ i => l0.length - (intOf i).toNat)
  case atStart => exact ⟨0, 0, by omega, rfl, rfl, by decide, by rw [List.drop_zero]; exact HS.out⟩
  case round =>
    obtain ⟨k, C, hk, rfl, rfl, hC, hs⟩ := hrel
    by_cases hlt : k < l0.length
    · obtain ⟨b, off, rfl, _, _⟩ := w0 k hlt
      have hltI : (k : Int) < (l0.length : Int) := by omega
      have hcI : (l0.length : Int) ≤ (cap0 : Int) := by omega
      by_cases hn : a1 < l0.length - k
      · obtain ⟨n, rfl⟩ := Int.eq_ofNat_of_zero_le (show 0 ≤ a1 by omega)
        have HR : Hid (P.more (P.more C ((l0.drop k).take n)) (l0.drop (k + n)) = S) := by show _ = _; rw [← more_drop]; exact hs
        have HL : Hid (((l0.drop k).take n).length = n) := by show _ = _; simp; omega
        have hrow := w0.cut k n
        have hD := more_lt C ((l0.drop k).take n) hC (hrow.bd)
        have hmx : n ≤ maxLen := by unfold maxLen; omega
        obtain ⟨D, HD⟩ : ∃ D, Hid (P.more C ((l0.drop k).take n) = D) := ⟨_, rfl⟩
        rw [HD.out] at HR hD
        have HC := fun cp => more_any C (some ⟨b, off + k, none⟩) cp ((l0.drop k).take n) w ht hC hrow (by rw [HL.out]; exact hmx)
        rw [HL.out, HD.out] at HC
        have HHC : Hid _ := HC
        clear hs hrow HC
        go_wp2_with (go_at_call 12; refine (HHC.out _).mono ?_; rintro e w1 ⟨rfl, hw⟩; subst w1)
        exact ⟨⟨k + n, D, by omega, by go_num, by go_num, hD, HR.out⟩, by simp [intOf]; omega⟩
      · obtain ⟨n, hn2⟩ : ∃ n, l0.length = k + n := ⟨l0.length - k, by omega⟩
        have HR : Hid (P.more (P.more C ((l0.drop k).take n)) (l0.drop (k + n)) = S) := by show _ = _; rw [← more_drop]; exact hs
        have HL : Hid (((l0.drop k).take n).length = n) := by show _ = _; simp; omega
        have hrow := w0.cut k n
        have hD := more_lt C ((l0.drop k).take n) hC (hrow.bd)
        have hmx : n ≤ maxLen := by unfold maxLen; omega
        obtain ⟨D, HD⟩ : ∃ D, Hid (P.more C ((l0.drop k).take n) = D) := ⟨_, rfl⟩
        rw [HD.out] at HR hD
        have HC := fun cp => more_any C (some ⟨b, off + k, none⟩) cp ((l0.drop k).take n) w ht hC hrow (by rw [HL.out]; exact hmx)
        rw [HL.out, HD.out] at HC
        have HHC : Hid _ := HC
        have hq : (l0.length : Int) - k = n := by omega
        have hnn : ¬ a1 < (n : Int) := by omega
        have hcc : (k : Int) + n ≤ (cap0 : Int) := by omega
        have HN2 : Hid (k + n = l0.length) := hn2.symm
        have hn9 : n ≤ 3000 := by omega
        have hn1 : 0 < n := by omega
        clear hs hrow HC hn2 hn
        go_wp2_with (go_at_call 12; refine (HHC.out _).mono ?_; rintro e w1 ⟨rfl, hw⟩; subst w1)
        have hn2 := HN2.out
        exact ⟨⟨k + n, D, by omega, by go_num, by go_num, hD, HR.out⟩, by simp [intOf]; omega⟩
    · obtain rfl : k = l0.length := by omega
      have HN : Hid (C = S) := by show _ = _; rw [← hs, List.drop_length, more_nil]
      clear hs
      have he := eqI (S : Int)
      rw [HN.out]
      go_wp2_with (first | (go_at_call 10; refine (sum_any _ _ _ _ ht w0 m0).mono ?_; rintro e w1 ⟨rfl, hw⟩; subst w1; rw [HS.out]) | (go_at_call 9; refine (awake_any _ ht).mono ?_; rintro e w' ⟨rfl, hb⟩))
      go_ret
      exact ⟨rfl, by assumption⟩
end Go.Proofs.YtkbimkpbpbjafaaDoor
