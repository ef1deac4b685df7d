/- The document's partition: a segment's Size and Last; Retain. -/
import Derived.Test.YtnnljdnaipjoiaaQn
namespace Go.Proofs.Ytnnljdnaipjoiaa
set_option linter.unusedSimpArgs false
set_option linter.unusedVariables false
open Go.RowKit
/-- Some number. -/
def IntE (e : Ending) : Prop := ∃ n : Int, e = .returned (.int .i64 n)
set_option maxRecDepth 100000 in
theorem segSize_l {B : Nat} {s : Sg} {y : World} (h : SgIs B y s) : Calls Try.prog 34 #[.pointer (some ⟨s.g, 0, none⟩)] y fun e z => IntE e ∧ Below y.heap.size y z := by
  have HP : Hid (∀ z, Below y.heap.size y z → SgIs B z s) := fun z hb => h.below hb
  have hl := h.len
  clear h
  go_enter Try.func34, Try.ntmps34
  go_wp2_with fail
  go_loopw [3, 4] (fun n i wr => ∃ (k : Nat) (m : Int), k ≤ s.ss.length ∧ i = .int .i64 k ∧ n = .int .i64 m ∧ Below y.heap.size y wr) (fun _ i _ => s.ss.length - (intOf i).toNat)
  case atStart => exact ⟨0, 0, by omega, rfl, rfl, Below.refl _ _⟩
  case round =>
    obtain ⟨k, m, hk, rfl, rfl, hb⟩ := hrel
    have hp := HP.out wr hb
    obtain ⟨s0, s1⟩ := hp.cells
    by_cases hlt : k < s.ss.length
    · have hltI : (k : Int) < (s.ss.length : Int) := by omega
      obtain ⟨g, off, ha, c0, c1, c2, c3, c4⟩ := hp.row k hlt
      have hbt := hp.bat k hlt
      have HSZ : Hid (Calls Try.prog 40 #[.agg (s.ss.getD k bsz).cells] wr fun e w' => (∃ n : Int, e = .returned (.int .i64 n)) ∧ Below wr.heap.size wr w') := size_l _ _ _ _ _ _ _ wr hbt.row.1 hbt.len
      rw [ha] at s1
      clear hbt hp ha
      generalize s.ss.getD k bsz = b at *
      obtain ⟨⟨bb, bs, bp, bq, brs⟩, ba, bc⟩ := b
      simp only [Bs.cells, bcells] at HSZ c0 c1 c2 c3 c4
      go_wp2_with (go_at_call 40; refine Calls.mono HSZ.out ?_; rintro e w1 ⟨⟨n1, rfl⟩, hb1⟩)
      exact ⟨⟨k + 1, _, by omega, by go_num, rfl, hb.trans (hb1.mono hb.size)⟩, by simp [intOf]; omega⟩
    · obtain rfl : k = s.ss.length := by omega
      go_wp2_with fail
      go_ret
      exact ⟨⟨_, rfl⟩, hb⟩
set_option maxRecDepth 100000 in
theorem segLast_l {B : Nat} {s : Sg} {y : World} (h : SgIs B y s) : Calls Try.prog 35 #[.pointer (some ⟨s.g, 0, none⟩)] y fun e z => IntE e ∧ z = y := by
  have HP : Hid (SgIs B y s) := h
  have hl := h.len
  obtain ⟨s0, s1⟩ := h.cells
  clear h
  go_enter Try.func35, Try.ntmps35
  go_wp2_with fail
  go_loop [3, 4] (fun t i => ∃ (k : Nat) (m : Int), k ≤ s.ss.length ∧ i = .int .i64 k ∧ t = .int .i64 m) (fun _ i => s.ss.length - (intOf i).toNat)
  case atStart => exact ⟨0, -1, by omega, rfl, rfl⟩
  case round =>
    obtain ⟨k, m, hk, rfl, rfl⟩ := hrel
    by_cases hlt : k < s.ss.length
    · have hltI : (k : Int) < (s.ss.length : Int) := by omega
      obtain ⟨g, off, ha, c0, c1, c2, c3, c4⟩ := HP.out.row k hlt
      have HRW : Hid (RRow y (s.ss.getD k bsz).a (s.ss.getD k bsz).b.rs) := (HP.out.bat k hlt).row.1
      have hrl := (HP.out.bat k hlt).len
      rw [ha] at s1
      clear ha
      generalize s.ss.getD k bsz = b at *
      obtain ⟨⟨bb, bs, bp, bq, brs⟩, ba, bc⟩ := b
      simp only at c0 c1 c2 c3 c4 HRW hrl
      go_wp2_with fail
      go_loop [3, 5] (fun t i => ∃ (j : Nat) (m : Int), j ≤ brs.length ∧ i = .int .i64 j ∧ t = .int .i64 m) (fun _ i => brs.length - (intOf i).toNat)
      case atStart => exact ⟨0, m, by omega, rfl, rfl⟩
      case round =>
        obtain ⟨j, m2, hj, rfl, rfl⟩ := hrel
        by_cases hlt2 : j < brs.length
        · have hltJ : (j : Int) < (brs.length : Int) := by omega
          obtain ⟨g2, off2, rfl, d0, d1, d2, d3, d4, d5⟩ := HRW.out j hlt2
          generalize brs.getD j rz = r at *
          go_wp2_with fail
          exact ⟨⟨j + 1, _, by omega, by go_num, rfl⟩, by simp [intOf]; omega⟩
        · obtain rfl : j = brs.length := by omega
          go_wp2_with fail
          exact ⟨⟨k + 1, m2, by omega, by go_num, rfl⟩, by simp [intOf]; omega⟩
    · obtain rfl : k = s.ss.length := by omega
      go_wp2_with fail
      go_ret
      exact ⟨⟨_, rfl⟩, rfl⟩
def RetE (B p : Nat) (seg : Int) (r off cap : Nat) (L : List Sg) (y : World) (e : Ending) (z : World) : Prop :=
  BoolE e ∧ PKeep B y z ∧ (PIs B p seg r off cap L z ∨ 2 ≤ L.length ∧ PIs B p seg r (off + 1) (cap - 1) L.tail z)
set_option maxHeartbeats 1000000 in
set_option maxRecDepth 100000 in
theorem retain_any {B p : Nat} {seg : Int} {r off cap : Nat} {L : List Sg} {y : World} (h : PIs B p seg r off cap L y) (now : Int) : Calls Try.prog 15 #[.pointer (some ⟨p, 0, none⟩), .int .i64 now] y fun e z => RetE B p seg r off cap L y e z := by
  have HP : Hid (∀ z, Below y.heap.size y z → PIs B p seg r off cap L z) := fun z hb => h.below hb
  have hl := h.len
  have hpos := h.pos
  have hcl := h.cap1
  have HNO : Hid (∀ z v, Below y.heap.size y z → RetE B p seg r off cap L y (.returned (.bool v)) z) := fun z v hb => ⟨⟨v, rfl⟩, PKeep.of_below hb, .inl (h.below hb)⟩
  have HYES : Hid (∀ z v, 2 ≤ L.length → Below y.heap.size y z → RetE B p seg r off cap L y (.returned (.bool v)) (z.setCell ⟨p, 5, none⟩ (.slice (some ⟨r, off + 1, none⟩) (L.length - 1) (cap - 1)))) := fun z v h2 hb => by
    obtain ⟨q1, q2⟩ := (h.below hb).tail h2
    exact ⟨⟨v, rfl⟩, (PKeep.of_below hb).trans q2, .inr ⟨h2, q1⟩⟩
  obtain ⟨z0, z1, z2, z3, z4, c5, cf⟩ := h.cells
  by_cases h2 : L.length < 2
  · have h2I : (L.length : Int) < 2 := by omega
    clear h
    go_enter Try.func15, Try.ntmps15
    go_wp2_with fail
    go_ret
    exact HNO.out y false (Below.refl _ _)
  · have h2I : ¬ (L.length : Int) < 2 := by omega
    clear h
    go_enter Try.func15, Try.ntmps15
    go_wp2_with fail
    clear z0 z1 z2 z3 z4 c5 cf
    go_loopw [5, 6] (fun n i wr => ∃ (k : Nat) (m : Int), k + 1 ≤ L.length ∧ i = .int .i64 k ∧ n = .int .i64 m ∧ Below y.heap.size y wr) (fun _ i _ => L.length - (intOf i).toNat)
    case atStart => exact ⟨0, 0, by omega, rfl, rfl, Below.refl _ _⟩
    case round =>
      obtain ⟨k, m, hk, rfl, rfl, hb⟩ := hrel
      have hp := HP.out wr hb
      obtain ⟨z0, z1, z2, z3, z4, c5, cf⟩ := hp.cells
      have hw1 : IntKind.i64.wrap ((k : Int) + 1) = (k : Int) + 1 := by rw [IntKind.wrap_i64]; omega
      by_cases hlt : k + 1 < L.length
      · have hltI : (k : Int) + 1 < (L.length : Int) := by omega
        have hltJ : (k : Int) < (L.length : Int) := by omega
        have hat := hp.at k (by omega)
        have HSZ : Hid (Calls Try.prog 34 #[.pointer (some ⟨(L.getD k sgz).g, 0, none⟩)] wr fun e z => IntE e ∧ Below wr.heap.size wr z) := segSize_l (hp.seg k (by omega))
        generalize (L.getD k sgz).g = g at *
        clear hp
        go_wp2_with (go_at_call 34; refine Calls.mono HSZ.out ?_; rintro e w1 ⟨⟨n1, rfl⟩, hb1⟩)
        exact ⟨⟨k + 1, _, by omega, by go_num, rfl, hb.trans (hb1.mono hb.size)⟩, by simp [intOf]; omega⟩
      · have hltI : ¬ (k : Int) + 1 < (L.length : Int) := by omega
        have hat := hp.at 0 (by omega)
        rw [Nat.add_zero] at hat
        have HLA : Hid (Calls Try.prog 35 #[.pointer (some ⟨(L.getD 0 sgz).g, 0, none⟩)] wr fun e z => IntE e ∧ z = wr) := segLast_l (hp.seg 0 (by omega))
        have h0I : (0 : Int) < (L.length : Int) := by omega
        have hc1 : (1 : Int) ≤ (L.length : Int) := by omega
        have hc2 : (L.length : Int) ≤ (cap : Int) := by omega
        have HY := HYES.out wr true (by omega) hb
        have HN := HNO.out wr false hb
        have hcap : ¬ cap = 1 := by omega
        generalize (L.getD 0 sgz).g = g at *
        clear hp HNO HYES
        go_wp2_with (go_at_call 35; refine Calls.mono HLA.out ?_; rintro e w1 ⟨⟨n1, rfl⟩, hw⟩; subst hw)
        · go_ret
          exact HN
        · go_ret
          exact HY
end Go.Proofs.Ytnnljdnaipjoiaa
