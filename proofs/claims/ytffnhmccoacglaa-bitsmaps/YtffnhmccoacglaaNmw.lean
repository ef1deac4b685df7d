/- The walk of BitsNumbers: true for every argument, and nothing that was there is turned. -/
import Derived.Test.YtffnhmccoacglaaRset
namespace Go.Proofs.Ytffnhmccoacglaa
set_option linter.unusedSimpArgs false
set_option linter.unusedVariables false
open Go.RowKit
theorem putI_len (l : List Nat) (p size : Int) (big : Bool) (V : Nat) (h : l.length ≤ 2000) : (putI l p size big V).length ≤ maxLen := by
  unfold putI
  split
  · rw [putL_length]; unfold maxLen; omega
  · simp
theorem lent77 {B : Nat} {w : World} {g cap : Nat} {l : List Nat} (h : Own B w g cap (l ++ [77])) : w.cell? ⟨g, l.length, none⟩ = some (.int .u8 77) := by
  have := h.cell l.length (by simp)
  simpa [List.getD] using this
theorem lt77 (l : List Nat) (h : ∀ i, l.getD i 0 < 256) : ∀ i, (l ++ [77]).getD i 0 < 256 := by
  intro i
  by_cases hi : i < l.length
  · have := h i
    simpa [List.getD, List.getElem?_append, hi] using this
  · by_cases h2 : i = l.length
    · subst h2; simp [List.getD]
    · rw [getD_out _ _ (by simp; omega)]; omega
set_option maxRecDepth 100000 in
set_option maxHeartbeats 800000 in
theorem bitsNumbers_walk (a0 : Option Addr) (cap0 : Nat) (l0 : List Nat) (a1 : Int) (a2 : Int) (a3 : Bool) (a4 : Int) (w : World) (w0 : Row w a0 l0) (m0 : l0.length ≤ maxLen) (n0 : a0 = none → cap0 = 0) (w1 : (Lit.int .i64 a1).wf = true) (w2 : (Lit.int .i64 a2).wf = true) (w4 : (Lit.int .u64 a4).wf = true) :
    Calls Try.prog 3 #[.slice a0 l0.length cap0, .int .i64 a1, .int .i64 a2, .bool a3, .int .u64 a4] w fun e w' => e = .returned (.bool true) ∧ Below w.heap.size w w' := by
  obtain ⟨b0, b1⟩ := bdu64 w4
  obtain ⟨V, rfl⟩ := Int.eq_ofNat_of_zero_le b0
  obtain ⟨c0, c1⟩ := bd64 w1
  clear w1 w2 w4
  by_cases hl : 2000 < (l0.length : Int)
  · go_enter Try.func3, Try.ntmps3
    go_wp2_with (go_at_call 14; refine (awake_any _).mono ?_; rintro e w' ⟨rfl, hb⟩)
    go_ret
    exact ⟨rfl, by assumption⟩
  have hl2 : l0.length ≤ 2000 := by omega
  have hV : V ≤ 18446744073709551615 := by omega
  obtain ⟨gv, HGV⟩ : ∃ gv, Hid (getI l0 a1 a2 a3 = gv) := ⟨_, rfl⟩
  obtain ⟨fb, HFB⟩ : ∃ fb, Hid (fitsB l0.length a1 a2 = fb) := ⟨_, rfl⟩
  obtain ⟨L, HL⟩ : ∃ L, Hid (putI l0 a1 a2 a3 V = L) := ⟨_, rfl⟩
  have hLm : L.length ≤ maxLen := by rw [← HL.out]; exact putI_len l0 a1 a2 a3 V hl2
  have e1 : (gv == gv) = true := by simp
  have e2 : (fb == fb) = true := by simp
  go_enter Try.func3, Try.ntmps3
  go_wp2_with fail
  refine (lent_any a0 cap0 l0 w w0 hl2 n0).mono ?_
  rintro e w1 ⟨⟨g, capp, rfl, hown⟩, hb1⟩
  have hrp := row_front (hown.row (lt77 l0 w0.lt))
  have hr1 := w0.below hb1
  have hc77 := lent77 hown
  have hcap := hown.le77
  have HB1 : Hid (Below w.heap.size w w1) := hb1
  have HS1 := hb1.size
  clear hown hb1
  go_wp2_with (first
    | (go_at_call 16; refine (get_any _ _ _ _ _ _ _ hrp m0).mono ?_; rintro e w' ⟨rfl, hw⟩; subst w'; rw [HGV.out, HFB.out])
    | (go_at_call 17; refine (rget_any _ _ _ _ _ _ _ hr1 hl2 c0 c1).mono ?_; rintro e w' ⟨rfl, hw⟩; subst w'; rw [HGV.out, HFB.out]))
  have ht := put_any (some ⟨g, 0, none⟩) capp l0 a1 a2 a3 V w1 hrp hl2 hV
  rw [HL.out, HFB.out] at ht
  refine ht.mono ?_
  clear ht
  rintro e w2 ⟨⟨pa, pc, rfl, hrow2⟩, hb2⟩
  go_wp2_with fail
  have ht := rput_any a0 cap0 l0 a1 a2 a3 V w2 (hr1.below hb2) hl2 hV c0 c1
  rw [HL.out, HFB.out] at ht
  refine ht.mono ?_
  clear ht
  rintro e w3 ⟨⟨qa, qc, rfl, hrow3⟩, hb3⟩
  have hb13 : Below w1.heap.size w1 w3 := hb2.trans (hb3.mono hb2.size)
  have hrow2' := hrow2.below hb3
  have hrp3 := hrp.below hb13
  have hr3 := hr1.below hb13
  have hc77' : w3.cell? ⟨g, l0.length, none⟩ = some (.int .u8 77) := by
    rw [hb13.cell (World.block_lt_of_cell? _ _ hc77)]; exact hc77
  have HB3 : Hid (Below w.heap.size w w3) := HB1.out.trans (hb13.mono HS1)
  clear hrow2 hb2 hb3 hb13 hrp hr1 hc77 HB1
  go_wp2_with fail
  refine (bytes_any pa pc L qa qc L _ hrow2' hrow3 hLm hLm).mono ?_
  rintro e w4 ⟨rfl, n, rfl⟩
  rw [show decide (L = L) = true by simp]
  go_wp2_with fail
  refine (back_any g capp a0 cap0 l0 _ (hrp3.drewN n) (hr3.drewN n) hl2 hcap hc77').mono ?_
  rintro e w5 ⟨rfl, n', rfl⟩
  clear hrow2' hrow3 hrp3 hr3 hc77'
  go_wp2_with fail
  refine (awake_any _).mono ?_
  rintro e w6 ⟨rfl, hb6⟩
  have HB6 : Hid (Below w.heap.size w w6) := (below_drewN HB3.out (n + n')).trans (hb6.mono HB3.out.size)
  clear hb6
  go_wp2_with fail
  go_ret
  exact ⟨rfl, HB6.out⟩
end Go.Proofs.Ytffnhmccoacglaa
