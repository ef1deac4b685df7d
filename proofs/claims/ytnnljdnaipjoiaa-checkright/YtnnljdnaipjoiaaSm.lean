/- Small, small: what they let through. -/
import Derived.Test.YtnnljdnaipjoiaaAr
namespace Go.Proofs.Ytnnljdnaipjoiaa
set_option linter.unusedSimpArgs false
set_option linter.unusedVariables false
open Go.RowKit
/-- An answer that is true only where P holds. -/
def IsT (P : Prop) (e : Ending) : Prop := ∃ b, e = .returned (.bool b) ∧ (b = true → P)
theorem IsT.no (P : Prop) : IsT P (.returned (.bool false)) := ⟨false, rfl, fun h => by cases h⟩
theorem RsUp.below {w w' : World} {a : Option Addr} {rs : List Rc} (h : RsUp w a rs) (hb : Below w.heap.size w w') : RsUp w' a rs := ⟨h.row.below hb, h.len, h.each⟩
theorem BsUp.below {w w' : World} {a : Option Addr} {ss : List Bs} (h : BsUp w a ss) (hb : Below w.heap.size w w') : BsUp w' a ss := ⟨h.cells.below hb, h.len, fun i hi => (h.each i hi).below hb⟩
theorem SpUp.below {w w' : World} {s : Sp} (h : SpUp w s) (hb : Below w.heap.size w w') : SpUp w' s := ⟨h.t, h.b.below hb⟩
theorem SCells.below {w w' : World} {a : Option Addr} {l : List Sp} (h : SCells w a l) (hb : Below w.heap.size w w') : SCells w' a l := by
  intro i hi
  obtain ⟨b, off, e, h0, h1, h2, h3, h4, h5⟩ := h i hi
  exact ⟨b, off, e, (hb.cell (World.block_lt_of_cell? _ _ h0)).trans h0, (hb.cell (World.block_lt_of_cell? _ _ h1)).trans h1, (hb.cell (World.block_lt_of_cell? _ _ h2)).trans h2, (hb.cell (World.block_lt_of_cell? _ _ h3)).trans h3, (hb.cell (World.block_lt_of_cell? _ _ h4)).trans h4, (hb.cell (World.block_lt_of_cell? _ _ h5)).trans h5⟩
theorem SsUp.below {w w' : World} {a : Option Addr} {l : List Sp} (h : SsUp w a l) (hb : Below w.heap.size w w') : SsUp w' a l := ⟨h.cells.below hb, h.len, fun i hi => (h.each i hi).below hb⟩
def ShortR (rs : List Rc) : Prop := ∀ i, i < rs.length → (rs.getD i rz).k.size ≤ 20000 ∧ (rs.getD i rz).v.size ≤ 20000
set_option maxHeartbeats 800000 in
set_option maxRecDepth 100000 in
theorem shortR_any (a : Option Addr) (cap : Nat) (rs : List Rc) (w : World) (hu : RsUp w a rs) :
    Calls Try.prog 24 #[.slice a rs.length cap] w fun e w' => IsT (ShortR rs) e ∧ Below w.heap.size w w' := by
  have hl := hu.len
  unfold big at hl
  have HU : Hid (∀ y, Below w.heap.size w y → RsUp y a rs) := fun y hb => hu.below hb
  have HN : Hid (IsT (ShortR rs) (.returned (.bool false))) := IsT.no _
  have HY : Hid ((∀ i, i < rs.length → (rs.getD i rz).k.size ≤ 20000 ∧ (rs.getD i rz).v.size ≤ 20000) → IsT (ShortR rs) (.returned (.bool true))) := fun h => ⟨true, rfl, fun _ => h⟩
  clear hu
  generalize IsT (ShortR rs) = IP at *
  go_enter Try.func24, Try.ntmps24
  go_wp2_with fail
  go_loopw [3, 4] (fun n i wr => ∃ (k : Nat) (x : Int), k ≤ rs.length ∧ i = .int .i64 k ∧ n = .int .i64 x ∧ 0 ≤ x ∧ x ≤ 3000000 ∧ (∀ i, i < k → ((rs.getD i rz).k.size : Int) ≤ x ∧ ((rs.getD i rz).v.size : Int) ≤ x) ∧ Below w.heap.size w wr) (fun _ i _ => rs.length - (intOf i).toNat)
  case atStart => exact ⟨0, _, by omega, rfl, rfl, by omega, by omega, fun i hi => by omega, Below.refl _ _⟩
  case round =>
    obtain ⟨k, x, hk, rfl, rfl, hx0, hx1, hall, hb⟩ := hrel
    have HAL : Hid (∀ i, i < k → ((rs.getD i rz).k.size : Int) ≤ x ∧ ((rs.getD i rz).v.size : Int) ≤ x) := hall
    clear hall
    by_cases hlt : k < rs.length
    · have hltI : (k : Int) < (rs.length : Int) := by omega
      by_cases hx : x ≤ 20000
      · obtain ⟨b, off, rfl, z0, z1, z2, z3, z4, z5⟩ := (HU.out wr hb).row k hlt
        have hup := (HU.out wr hb).each k hlt
        have HNX : Hid (∀ i, i < k + 1 → ((rs.getD i rz).k.size : Int) ≤ x + ((rs.getD k rz).k.size : Int) + ((rs.getD k rz).v.size : Int) ∧ ((rs.getD i rz).v.size : Int) ≤ x + ((rs.getD k rz).k.size : Int) + ((rs.getD k rz).v.size : Int)) := fun i hi => by
          by_cases e : i = k
          · subst e; omega
          · have := HAL.out i (by omega); omega
        unfold RcUp big at hup
        clear HU
        generalize rs.getD k rz = r at *
        obtain ⟨r0, r1, r2, r3, r4, r5⟩ := r
        simp only at z0 z1 z2 z3 z4 z5 hup HNX
        obtain ⟨u1, u2⟩ := hup
        go_wp2
        go_quiet (fail)
        go_wp2
        exact ⟨⟨k + 1, _, by omega, by go_num, rfl, by omega, by omega, HNX.out, below_drewN hb _⟩, by simp [intOf]; omega⟩
      · go_wp2_with fail
        go_ret
        exact ⟨HN.out, hb⟩
    · obtain rfl : k = rs.length := by omega
      by_cases hx : x ≤ 20000
      · have HE := HY.out (fun i hi => by have := HAL.out i hi; omega)
        by_cases h3 : (rs.length : Int) ≤ 300
        · go_wp2_with fail
          go_ret
          exact ⟨HE, hb⟩
        · go_wp2_with fail
          go_ret
          exact ⟨HN.out, hb⟩
      · go_wp2_with fail
        go_ret
        exact ⟨HN.out, hb⟩
end Go.Proofs.Ytnnljdnaipjoiaa
