/- The walks of BitsSigns, BitsEdges and BitsNarrow: each is true for every argument, and nothing that was there is turned. -/
import Derived.Test.YtffnhmccoacglaaAwk
namespace Go.Proofs.Ytffnhmccoacglaa
set_option linter.unusedSimpArgs false
set_option linter.unusedVariables false
open Go.RowKit
theorem bd64 {a : Int} (h : (Lit.int .i64 a).wf = true) : -9223372036854775808 ≤ a ∧ a ≤ 9223372036854775807 := by
  simpa [Lit.wf, IntKind.min, IntKind.max, IntKind.signed, IntKind.bits] using h
theorem bdu64 {a : Int} (h : (Lit.int .u64 a).wf = true) : 0 ≤ a ∧ a ≤ 18446744073709551615 := by
  simpa [Lit.wf, IntKind.min, IntKind.max, IntKind.signed, IntKind.bits] using h
theorem bdu8 {a : Int} (h : (Lit.int .u8 a).wf = true) : 0 ≤ a ∧ a ≤ 255 := by
  simpa [Lit.wf, IntKind.min, IntKind.max, IntKind.signed, IntKind.bits] using h
/-- From the cells of a slice that came in to a row of bytes. -/
theorem row_of_cells {W : World} {x : Addr} {len cap : Nat} {zs : List Int} (hl : len ≤ cap) (hm : cap ≤ maxLen) (hz : zs.length = cap)
    (hcell : ∀ i, i < zs.length → W.cell? (x.add i) = some (.int .u8 (zs.getD i 0))) (hwz : ∀ n ∈ zs, (Lit.int .u8 n).wf = true) :
    ∃ l : List Nat, len = l.length ∧ Row W (some x) l ∧ l.length ≤ maxLen := by
  have hlen : (zs.take len).length = len := by simp; omega
  refine ⟨(zs.take len).map Int.toNat, by simp; omega, ?_, by simp; omega⟩
  intro i hi
  have hi' : i < len := by simp at hi; omega
  have hiz : i < zs.length := by omega
  have hc := hcell i hiz
  have hb := bdu8 (hwz _ (List.getElem_mem hiz))
  obtain ⟨b, off, spot⟩ := x
  have hspot : spot = none := by
    have h0 := hcell 0 (by omega)
    simpa [Addr.add] using World.cell?_spot h0
  subst hspot
  have e : ((zs.take len).map Int.toNat).getD i 0 = (zs[i]).toNat := by
    simp [List.getD, List.getElem?_take, hi', hiz]
  have e2 : zs.getD i 0 = zs[i] := by simp [List.getD, hiz]
  rw [Addr.add_lit, e2] at hc
  refine ⟨b, off, rfl, ?_, ?_⟩
  · rw [hc, e]
    have : ((zs[i].toNat : Nat) : Int) = zs[i] := by omega
    rw [this]
  · rw [e]; omega

theorem bitsSigns_walk (a0 : Int) (w : World) (w0 : (Lit.int .i64 a0).wf = true) :
    Calls Try.prog 11 #[.int .i64 a0] w fun e w' => e = .returned (.bool true) ∧ Below w.heap.size w w' := by
  obtain ⟨b0, b1⟩ := bd64 w0
  clear w0
  have hz := zig_bd a0 b0 b1
  by_cases h : 0 ≤ a0
  · have e : (zig a0 == 2 * a0) = true := by simp [zig, h]
    go_enter Try.func11, Try.ntmps11
    go_wp2_with (first | (go_at_call 26; refine (zig_any _ _ b0 b1).mono ?_; rintro e w' ⟨rfl, rfl⟩) | (go_at_call 14; refine (awake_any _).mono ?_; rintro e w' ⟨rfl, hb⟩))
    go_ret
    exact ⟨rfl, by assumption⟩
  · have e : (zig a0 == 2 * -(a0 + 1) + 1) = true := by simp [zig, h]; omega
    go_enter Try.func11, Try.ntmps11
    go_wp2_with (first | (go_at_call 26; refine (zig_any _ _ b0 b1).mono ?_; rintro e w' ⟨rfl, rfl⟩) | (go_at_call 14; refine (awake_any _).mono ?_; rintro e w' ⟨rfl, hb⟩))
    go_ret
    exact ⟨rfl, by assumption⟩
theorem bitsNarrow_walk (a0 : Int) (a1 : Int) (a2 : Int) (a3 : Bool) (w : World) (w0 : (Lit.int .i64 a0).wf = true) (w1 : (Lit.int .u64 a1).wf = true) (w2 : (Lit.int .i64 a2).wf = true) :
    Calls Try.prog 5 #[.int .i64 a0, .int .u64 a1, .int .i64 a2, .bool a3] w fun e w' => e = .returned (.bool true) ∧ Below w.heap.size w w' := by
  obtain ⟨b0, b1⟩ := bd64 w0
  obtain ⟨c0, c1⟩ := bdu64 w1
  clear w0 w1 w2
  generalize hN : narrowB a0 a2 a3 = nb
  generalize hV : narrowV a0 a2 a3 = nv
  generalize hW : widenI a1 a2 a3 = nw
  have HN : Hid (narrowB a0 a2 a3 = nb) := hN
  have HV : Hid (narrowV a0 a2 a3 = nv) := hV
  have HW : Hid (widenI a1 a2 a3 = nw) := hW
  clear hN hV hW
  have ee : (nv == nv) = true := by simp
  have ew : (nw == nw) = true := by simp
  have eb : (nb == nb) = true := by simp
  go_enter Try.func5, Try.ntmps5
  go_wp2_with (first
    | (go_at_call 30; refine (narrow_any _ _ _ _ b0 b1).mono ?_; rintro e w' ⟨rfl, rfl⟩; rw [HN.out, HV.out])
    | (go_at_call 31; refine (rnarrow_any _ _ _ _ b0 b1).mono ?_; rintro e w' ⟨rfl, rfl⟩; rw [HN.out, HV.out])
    | (go_at_call 32; refine (widen_any _ _ _ _ c0 c1).mono ?_; rintro e w' ⟨rfl, rfl⟩; rw [HW.out])
    | (go_at_call 33; refine (rwiden_any _ _ _ _ c0 c1).mono ?_; rintro e w' ⟨rfl, rfl⟩; rw [HW.out])
    | (go_at_call 14; refine (awake_any _).mono ?_; rintro e w' ⟨rfl, hb⟩))
  go_ret
  exact ⟨rfl, by assumption⟩
set_option maxRecDepth 100000 in
theorem bitsEdges_walk (a0 : Int) (w : World) (w0 : (Lit.int .i64 a0).wf = true) :
    Calls Try.prog 12 #[.int .i64 a0] w fun e w' => e = .returned (.bool true) ∧ Below w.heap.size w w' := by
  clear w0
  by_cases h : a0 < 1
  · go_enter Try.func12, Try.ntmps12
    go_wp2_with (go_at_call 14; refine (awake_any _).mono ?_; rintro e w' ⟨rfl, hb⟩)
    go_ret
    exact ⟨rfl, by assumption⟩
  by_cases h2 : 62 < a0
  · go_enter Try.func12, Try.ntmps12
    go_wp2_with (go_at_call 14; refine (awake_any _).mono ?_; rintro e w' ⟨rfl, hb⟩)
    go_ret
    exact ⟨rfl, by assumption⟩
  obtain ⟨m, rfl⟩ := Int.eq_ofNat_of_zero_le (show 0 ≤ a0 by omega)
  have hm0 : 1 ≤ (m : Int) := by omega
  have hm1 : (m : Int) ≤ 62 := by omega
  have hp : (2 : Int) ^ (m - 1) ≤ 2305843009213693952 := by have := p2le (m - 1) 61 (by omega); simpa using this
  have hp0 := p2pos (m - 1)
  have hs := p2succ m (by omega)
  obtain ⟨M, hM⟩ : ∃ M, (2 : Int) ^ (m - 1) = M := ⟨_, rfl⟩
  have nS : ∀ v, narrowB v m true = decide (-M ≤ v ∧ v < M) := by intro v; simp [narrowB, fitsIn, hM]; intros; omega
  have nU : ∀ v, narrowB v m false = decide (0 ≤ v ∧ v < 2 * M) := by intro v; simp [narrowB, fitsIn, hs, hM]; intros; omega
  have e1 : narrowB (M - 1) m true = true := by rw [nS]; simp; omega
  have e2 : narrowB M m true = false := by rw [nS]; simp
  have e3 : narrowB (-M) m true = true := by rw [nS]; simp; omega
  have e4 : narrowB (-M - 1) m true = false := by rw [nS]; simp; omega
  have e5 : narrowB (2 * M - 1) m false = true := by rw [nU]; simp; omega
  have e6 : narrowB (2 * M) m false = false := by rw [nU]; simp
  have e7 : narrowB (-1) m false = false := by rw [nU]; simp
  rw [hM] at hp hp0
  clear nS nU hs h h2
  go_enter Try.func12, Try.ntmps12
  go_wp2_with (first
    | (go_at_call 30; refine (narrow_any _ _ _ _ (by omega) (by omega)).mono ?_; rintro e w' ⟨rfl, rfl⟩)
    | (go_at_call 14; refine (awake_any _).mono ?_; rintro e w' ⟨rfl, hb⟩))
  go_ret
  exact ⟨rfl, by assumption⟩
end Go.Proofs.Ytffnhmccoacglaa
