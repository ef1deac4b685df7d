/- Small: it answers, whatever it is told. -/
import Derived.Test.YtnnljdnaipjoiaaAr
namespace Go.Proofs.Ytnnljdnaipjoiaa
set_option linter.unusedSimpArgs false
set_option linter.unusedVariables false
open Go.RowKit
/-- A yes or a no. -/
def IsB (e : Ending) : Prop := ∃ b, e = .returned (.bool b)
theorem IsB.mk' (b : Bool) : IsB (.returned (.bool b)) := ⟨b, rfl⟩
theorem RsUp.below {w w' : World} {a : Option Addr} {rs : List Rc} (h : RsUp w a rs) (hb : Below w.heap.size w w') : RsUp w' a rs := ⟨h.row.below hb, h.len, h.each⟩
theorem BsUp.below {w w' : World} {a : Option Addr} {ss : List Bs} (h : BsUp w a ss) (hb : Below w.heap.size w w') : BsUp w' a ss := ⟨h.cells.below hb, h.len, fun i hi => (h.each i hi).below hb, h.num⟩
theorem SpUp.below {w w' : World} {s : Sp} (h : SpUp w s) (hb : Below w.heap.size w w') : SpUp w' s := ⟨h.t, h.n, h.b.below hb⟩
theorem SCells.below {w w' : World} {a : Option Addr} {l : List Sp} (h : SCells w a l) (hb : Below w.heap.size w w') : SCells w' a l := by
  intro i hi
  obtain ⟨b, off, e, h0, h1, h2, h3, h4, h5⟩ := h i hi
  exact ⟨b, off, e, (hb.cell (World.block_lt_of_cell? _ _ h0)).trans h0, (hb.cell (World.block_lt_of_cell? _ _ h1)).trans h1, (hb.cell (World.block_lt_of_cell? _ _ h2)).trans h2, (hb.cell (World.block_lt_of_cell? _ _ h3)).trans h3, (hb.cell (World.block_lt_of_cell? _ _ h4)).trans h4, (hb.cell (World.block_lt_of_cell? _ _ h5)).trans h5⟩
theorem SsUp.below {w w' : World} {a : Option Addr} {l : List Sp} (h : SsUp w a l) (hb : Below w.heap.size w w') : SsUp w' a l := ⟨h.cells.below hb, h.len, fun i hi => (h.each i hi).below hb⟩
set_option maxHeartbeats 800000 in
set_option maxRecDepth 100000 in
theorem shortR_any (a : Option Addr) (cap : Nat) (rs : List Rc) (w : World) (hu : RsUp w a rs) :
    Calls Try.prog 24 #[.slice a rs.length cap] w fun e w' => IsB e ∧ Below w.heap.size w w' := by
  have hl := hu.len
  unfold maxLen at hl
  have HU : Hid (∀ y, Below w.heap.size w y → RsUp y a rs) := fun y hb => hu.below hb
  have HN : Hid (∀ b, IsB (.returned (.bool b))) := IsB.mk'
  clear hu
  generalize IsB = IP at *
  go_enter Try.func24, Try.ntmps24
  go_wp2_with fail
  go_loopw [3, 4] (fun n i wr => ∃ (k : Nat) (x : Int), k ≤ rs.length ∧ i = .int .i64 k ∧ n = .int .i64 x ∧ Below w.heap.size w wr) (fun _ i _ => rs.length - (intOf i).toNat)
  case atStart => exact ⟨0, _, by omega, rfl, rfl, Below.refl _ _⟩
  case round =>
    obtain ⟨k, x, hk, rfl, rfl, hb⟩ := hrel
    by_cases hlt : k < rs.length
    · have hltI : (k : Int) < (rs.length : Int) := by omega
      by_cases hx : x ≤ 20000
      · obtain ⟨b, off, rfl, z0, z1, z2, z3, z4, z5⟩ := (HU.out wr hb).row k hlt
        have hup := (HU.out wr hb).each k hlt
        have hrt := reach_top
        unfold RcUp at hup
        clear HU
        generalize rs.getD k rz = r at *
        obtain ⟨r0, r1, r2, r3, r4, r5⟩ := r
        simp only at z0 z1 z2 z3 z4 z5 hup
        obtain ⟨u0, u1, u2⟩ := hup
        have v1 : r1.size ≤ 140737488355328 := by omega
        have v2 : r3.size ≤ 140737488355328 := by omega
        clear u0 u1 u2 hrt
        go_wp2
        go_quiet (fail)
        go_wp2
        exact ⟨⟨k + 1, _, by omega, by go_num, rfl, below_drewN hb _⟩, by simp [intOf]; omega⟩
      · go_wp2_with fail
        go_ret
        exact ⟨HN.out _, hb⟩
    · obtain rfl : k = rs.length := by omega
      by_cases hx : x ≤ 20000
      · by_cases h3 : (rs.length : Int) ≤ 300
        · go_wp2_with fail
          go_ret
          exact ⟨HN.out _, hb⟩
        · go_wp2_with fail
          go_ret
          exact ⟨HN.out _, hb⟩
      · go_wp2_with fail
        go_ret
        exact ⟨HN.out _, hb⟩
end Go.Proofs.Ytnnljdnaipjoiaa
