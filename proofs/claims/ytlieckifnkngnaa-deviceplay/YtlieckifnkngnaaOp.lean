/- The argument of DevicePlay, a row of steps, opened. -/
import Derived.Test.YtlieckifnkngnaaPw
import Derived.Deep.Slices
import Derived.ChangeSlices
namespace Go.Proofs.Ytlieckifnkngnaa
set_option linter.unusedSimpArgs false
set_option linter.unusedVariables false
open Go.RowKit Go.MapKept Go.ChangeShapes Go.WideShapes Go.ChangeAt
theorem cells36 : Try.prog.cellsOf 36 = 4 := by kernel_rfl
theorem cells3 : Try.prog.cellsOf 3 = 1 := by kernel_rfl
theorem cells34 : Try.prog.cellsOf 34 = 1 := by kernel_rfl
set_option maxRecDepth 100000 in
theorem steps_of {H : Type} {enc : TypeId × Value → H} {W : World} {fuel : Nat} {a0 : Option Addr} {L cap0 : Nat} {x : DataW H × List MemPlace}
    (h : DataW.trod enc Try.prog W 0 (fun _ => true) true fuel 22 [.slice a0 L cap0] = some x) : ∃ S, StpsAt W a0 L S ∧ L ≤ 9223372036854775807 := by
  rcases Go.Deep.open_slice Try.underlying22 h with ⟨hcs, _⟩ | ⟨ad, len, cap, m, n, D, Pl, hcs, _, hl, hm, hmm, _, hx⟩
  · simp at hcs
    obtain ⟨rfl, rfl, rfl⟩ := hcs
    exact ⟨fun _ => ⟨0, 0, 0, none, [], 0⟩, fun i hi => by omega, by omega⟩
  · simp at hcs
    obtain ⟨rfl, rfl, rfl⟩ := hcs
    unfold maxLen at hm
    have hlm : L ≤ m := by rw [hmm]; simp; omega
    have each : ∀ i, i < L → ∃ s : Stp, ∃ b off, some ad = some ⟨b, off, none⟩ ∧ StpAt W b (off + i * 4) s := by
      intro i hi
      have hsp : ad.spot = none := by
        obtain ⟨cs0, h10, _⟩ := hx 0 (by omega)
        rw [cells36] at h10
        obtain ⟨_, hlen0, hcell0⟩ := World.cells?_some h10
        have e := hcell0 0 (by omega)
        rw [List.getElem?_eq_getElem (by omega)] at e
        simpa [Addr.add] using World.cell?_spot e
      obtain ⟨b, off, spot⟩ := ad
      simp only at hsp
      subst hsp
      obtain ⟨cs', h1, h2⟩ := hx i (by omega)
      rw [cells36] at h1
      obtain ⟨_, hlen, hcell⟩ := World.cells?_some h1
      obtain ⟨xs, k, hk, hxy, _, hxl, hf⟩ := DataW.trod_struct Try.underlying36 h2
      match xs, hxl, cs', hlen with
      | [y0, y1, y2, y3], _, [v0, v1, v2, v3], _ =>
        have g0 := hf 0 _ rfl
        have g1 := hf 1 _ rfl
        have g2 := hf 2 _ rfl
        have g3 := hf 3 _ rfl
        simp [cells3, cells34] at g0 g1 g2 g3
        have e0 := hcell 0 (by omega)
        have e1 := hcell 1 (by omega)
        have e2 := hcell 2 (by omega)
        have e3 := hcell 3 (by omega)
        obtain ⟨n0, q0, _, w0⟩ := DataW.trod_int Try.underlying3 g0
        obtain ⟨n1, q1, _, w1⟩ := DataW.trod_int Try.underlying3 g1
        obtain ⟨n2, q2, _, w2⟩ := DataW.trod_int Try.underlying3 g2
        simp at q0 q1 q2
        subst q0; subst q1; subst q2
        rw [Addr.add_lit, Addr.add_lit] at e0 e1 e2 e3
        simp at e0 e1 e2 e3
        obtain ⟨lo, hi2⟩ := bd64 w1
        rcases open_ints Try.underlying34 Try.underlying3 (by kernel_rfl) g3 with ⟨hcs, _⟩ | ⟨y, l, c, zs, hcs, _, hl3, hm3, hz3, _, hcell3, hwz⟩
        · simp at hcs
          subst hcs
          exact ⟨⟨n0, n1, n2, none, [], 0⟩, b, off, rfl, ⟨e0, e1, e2, e3, RowI.nil _ _, by simp, lo, hi2⟩⟩
        · simp at hcs
          subst hcs
          obtain ⟨ls, rfl, hrow, hmx⟩ := rowI_of_cells hl3 hm3 (by simpa using hz3) hcell3 hwz
          unfold maxLen at hmx
          exact ⟨⟨n0, n1, n2, some y, ls, c⟩, b, off, rfl, ⟨e0, e1, e2, e3, hrow, by simp only; omega, lo, hi2⟩⟩
    classical
    refine ⟨fun i => if hi : i < L then (each i hi).choose else ⟨0, 0, 0, none, [], 0⟩, fun i hi => ?_, by omega⟩
    have := (each i hi).choose_spec
    simpa [hi] using this
end Go.Proofs.Ytlieckifnkngnaa
