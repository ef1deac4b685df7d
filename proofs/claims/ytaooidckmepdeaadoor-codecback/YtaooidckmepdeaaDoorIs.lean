/- Is a response looked at? -/
import Derived.Test.YtaooidckmepdeaaDoorOr
namespace Go.Proofs.YtaooidckmepdeaaDoor
set_option linter.unusedSimpArgs false
set_option linter.unusedVariables false
open Go.RowKit
def IsS (n c b : Nat) (e : Ending) : Prop := ∃ r : Bool, e = .returned (.bool r) ∧ (r = true → n ≤ 300 ∧ c ≤ 300 ∧ b ≤ 300)
set_option maxHeartbeats 1600000 in
set_option maxRecDepth 100000 in
theorem inS_big (cs : Array Value) (na ca ba : Option Addr) (nc cc bc N1 N2 N3 : Nat) (w : World) (HC : Hid (cs[6]? = some (.slice na N1 nc) ∧ cs[7]? = some (.slice ca N2 cc) ∧ cs[8]? = some (.slice ba N3 bc))) (h1 : N1 ≤ 140737488351232) (h2 : N2 ≤ 140737488351232) (h3 : N3 ≤ 140737488351232) (hbig : 300 < N1 + N2 + N3) :
    Calls Tryd.prog 14 #[.agg cs] w fun e w' => IsS N1 N2 N3 e ∧ Below w.heap.size w w' := by
  have HB : Hid (BxW w 40 cs (w.alloc (.cells cs 40))) := BxW.new _ _ _
  have c6 : (w.alloc (.cells cs 40)).cell? ⟨w.heap.size, 6, none⟩ = some (.slice na N1 nc) := by rw [(box_at HB.out.box 6).1]; exact HC.out.1
  have c7 : (w.alloc (.cells cs 40)).cell? ⟨w.heap.size, 7, none⟩ = some (.slice ca N2 cc) := by rw [(box_at HB.out.box 7).1]; exact HC.out.2.1
  have c8 : (w.alloc (.cells cs 40)).cell? ⟨w.heap.size, 8, none⟩ = some (.slice ba N3 bc) := by rw [(box_at HB.out.box 8).1]; exact HC.out.2.2
  have e1 : IntKind.i64.wrap ((N1 : Int) + (N2 : Int)) = (N1 : Int) + (N2 : Int) := by rw [IntKind.wrap_i64]; omega
  have e2 : IntKind.i64.wrap ((N1 : Int) + (N2 : Int) + (N3 : Int)) = (N1 : Int) + (N2 : Int) + (N3 : Int) := by rw [IntKind.wrap_i64]; omega
  have hgt : (N1 : Int) + (N2 : Int) + (N3 : Int) > 300 := by omega
  clear HC
  go_enter Tryd.func14, Tryd.ntmps14
  go_wp2
  go_ret
  exact ⟨⟨false, rfl, fun q => by cases q⟩, HB.out.bel⟩
set_option maxHeartbeats 3000000 in
set_option maxRecDepth 100000 in
theorem inS_few (cs : Array Value) (na ca ba : Option Addr) (nc cc bc N2 : Nat) (nm : List ByteArray) (ss : List Bs) (w : World) (HC : Hid (cs[6]? = some (.slice na nm.length nc) ∧ cs[7]? = some (.slice ca N2 cc) ∧ cs[8]? = some (.slice ba ss.length bc)))
    (HN : Hid (SRow w na nm)) (HS : Hid (BRow w ba ss)) (hle : nm.length + N2 + ss.length ≤ 300) :
    Calls Tryd.prog 14 #[.agg cs] w fun e w' => IsS nm.length N2 ss.length e ∧ Below w.heap.size w w' := by
  have HB : Hid (BxW w 40 cs (w.alloc (.cells cs 40))) := BxW.new _ _ _
  have HCX : Hid (∀ x, BxW w 40 cs x → x.cell? ⟨w.heap.size, 6, none⟩ = some (.slice na nm.length nc) ∧ x.cell? ⟨w.heap.size, 7, none⟩ = some (.slice ca N2 cc) ∧ x.cell? ⟨w.heap.size, 8, none⟩ = some (.slice ba ss.length bc)) := fun x hx => by
    rw [(box_at hx.box 6).1, (box_at hx.box 7).1, (box_at hx.box 8).1]; exact HC.out
  obtain ⟨c6, c7, c8⟩ := HCX.out _ HB.out
  have e1 : IntKind.i64.wrap ((nm.length : Int) + (N2 : Int)) = (nm.length : Int) + (N2 : Int) := by rw [IntKind.wrap_i64]; omega
  have e2 : IntKind.i64.wrap ((nm.length : Int) + (N2 : Int) + (ss.length : Int)) = (nm.length : Int) + (N2 : Int) + (ss.length : Int) := by rw [IntKind.wrap_i64]; omega
  have hgt : ¬ ((nm.length : Int) + (N2 : Int) + (ss.length : Int) > 300) := by omega
  have HLE : Hid (nm.length ≤ 300 ∧ N2 ≤ 300 ∧ ss.length ≤ 300) := ⟨by omega, by omega, by omega⟩
  clear HC hle
  go_enter Tryd.func14, Tryd.ntmps14
  go_wp2
  clear e1 e2 hgt
  generalize (nm.length : Int) + (N2 : Int) + (ss.length : Int) = x0 at *
  generalize (w.alloc (.cells cs 40)) = y at *
  have hl1 : nm.length ≤ 300 := HLE.out.1
  have hl2 : ss.length ≤ 300 := HLE.out.2.2
  go_loopw [3, 4] (fun nv iv wr => ∃ (kk : Nat) (x : Int), kk ≤ nm.length ∧ iv = .int .i64 kk ∧ nv = .int .i64 x ∧ wr = y) (fun _ iv _ => nm.length - (iof iv).toNat)
  case atStart => exact ⟨0, _, by omega, rfl, rfl, rfl⟩
  case round =>
    obtain ⟨kk, x, hk, rfl, rfl, rfl⟩ := hrel
    by_cases hgo : kk < nm.length ∧ x ≤ 30000
    · obtain ⟨hlt, hx⟩ := hgo
      have hltI : (kk : Int) < (nm.length : Int) := by omega
      obtain ⟨b1, o1, rfl, y0⟩ := (SRow.below HN.out HB.out.bel) kk hlt
      generalize nm.getD kk ⟨#[]⟩ = r at *
      go_wp2
      exact ⟨⟨kk + 1, _, by omega, by go_num, rfl, by trivial⟩, by simp [iof]; omega⟩
    · have hex : (¬ (kk : Int) < (nm.length : Int)) ∨ ((kk : Int) < (nm.length : Int) ∧ ¬ x ≤ 30000) := by omega
      clear hgo hk
      rcases hex with hz | ⟨hz, hz2⟩
      all_goals
        go_wp2
        try clear hz2
        clear hz
        go_loopw [3, 5] (fun nv iv wr => ∃ (kk : Nat) (x : Int), kk ≤ ss.length ∧ iv = .int .i64 kk ∧ nv = .int .i64 x ∧ BxW w 40 cs wr) (fun _ iv _ => ss.length - (iof iv).toNat)
        case atStart => exact ⟨0, _, by omega, rfl, rfl, HB.out⟩
        case round =>
          obtain ⟨k2, x2, hk2, rfl, rfl, hbx⟩ := hrel
          have HX : Hid (BxW w 40 cs wr) := hbx
          clear hbx c6 c7 c8
          obtain ⟨c6, c7, c8⟩ := HCX.out _ HX.out
          by_cases hgo : k2 < ss.length ∧ x2 ≤ 30000
          · obtain ⟨hlt, hx⟩ := hgo
            have hltI : (k2 : Int) < (ss.length : Int) := by omega
            obtain ⟨g1, o1, rfl, y0, y1, y2, y3, y4⟩ := (BCells.below HS.out.1 HX.out.bel) k2 hlt
            obtain ⟨r1, _, l1, _⟩ := (AllB.below HS.out.2 HX.out.bel) k2 hlt
            generalize (ss.getD k2 bsz).b.rs = rs at *
            generalize (ss.getD k2 bsz).a = a1 at *
            generalize (ss.getD k2 bsz).cap = c1 at *
            have HSM : Hid (Calls Tryd.prog 21 #[.slice a1 rs.length c1] wr fun e w' => IsB rs.length e ∧ Below wr.heap.size wr w') := small_any a1 c1 rs wr r1 l1
            have HR : Hid (RRow wr a1 rs) := r1
            have HY : Hid (wr.cell? ⟨g1, o1 + k2 * 5 + 4, none⟩ = some (.slice a1 rs.length c1)) := y4
            clear r1 l1 y0 y1 y2 y3
            go_wp2_with (go_at_call 21; refine (HSM.out).mono ?_; rintro e w1 ⟨⟨sm, rfl, hsm⟩, hb1⟩; have HX1 : Hid (BxW w 40 cs w1) := BxW.below HX.out hb1; have HR1 : Hid (RRow w1 a1 rs) := RRow.below HR.out hb1; clear c6 c7 c8 y4; obtain ⟨c6, c7, c8⟩ := HCX.out _ HX1.out; have y4 : w1.cell? ⟨g1, o1 + k2 * 5 + 4, none⟩ = some (.slice a1 rs.length c1) := (hb1.cell (World.block_lt_of_cell? _ _ HY.out)).trans HY.out; have HSM2 : Hid (sm = true → rs.length ≤ 300) := hsm; clear hb1 hsm HX HR HY HSM; cases sm)
            · go_ret
              exact ⟨⟨false, rfl, fun q => by cases q⟩, HX1.out.bel⟩
            · have hrl : rs.length ≤ 300 := HSM2.out (by trivial)
              go_loopw [3, 6] (fun nv iv wr => ∃ (j : Nat) (x : Int) (n : Nat), j ≤ rs.length ∧ iv = .int .i64 j ∧ nv = .int .i64 x ∧ wr = w1.drewN n) (fun _ iv _ => rs.length - (iof iv).toNat)
              case atStart => exact ⟨0, _, 0, by omega, rfl, rfl, rfl⟩
              case round =>
                obtain ⟨j, x3, n, hj, rfl, rfl, rfl⟩ := hrel
                by_cases hjt : j < rs.length
                · have hjI : (j : Int) < (rs.length : Int) := by omega
                  obtain ⟨b1, p1, rfl, u0, u1, u2, u3, u4, u5⟩ := HR1.out j hjt
                  clear HR1
                  generalize rs.getD j rz = r at *
                  go_wp2
                  go_quiet (fail)
                  go_wp2
                  exact ⟨⟨j + 1, _, n + nq, by omega, by go_num, rfl, by trivial⟩, by simp [iof]; omega⟩
                · go_wp2
                  exact ⟨⟨k2 + 1, _, by omega, by go_num, rfl, BxW.below HX1.out (below_drewN (Below.refl _ _) n)⟩, by simp [iof]; omega⟩
          · have hex : (¬ (k2 : Int) < (ss.length : Int)) ∨ ((k2 : Int) < (ss.length : Int) ∧ ¬ x2 ≤ 30000) := by omega
            clear hgo hk2
            rcases hex with hz | ⟨hz, hz2⟩
            all_goals
              go_wp2
              go_ret
              exact ⟨⟨_, rfl, fun _ => HLE.out⟩, HX.out.bel⟩
theorem inS_any (k i d : Int) (b : Bd) (p : Pt) (w : World) (h : ResIn w k i d b p) :
    Calls Tryd.prog 14 #[.agg (rsc k i d b p)] w fun e w' => IsS (b 17).nm.length (b 18).ct.length (b 19).bs.length e ∧ Below w.heap.size w w' := by
  have e : (b 19).bs.length = p.bs.length := by rw [← h.r.bb, List.length_map]
  rw [e]
  by_cases hle : (b 17).nm.length + (b 18).ct.length + p.bs.length ≤ 300
  · exact inS_few (rsc k i d b p) p.na p.ca p.ba p.nc p.cc p.bc _ _ p.bs w ⟨rfl, rfl, rfl⟩ h.r.nm h.r.bs hle
  · exact inS_big (rsc k i d b p) p.na p.ca p.ba p.nc p.cc p.bc _ _ _ w ⟨rfl, rfl, rfl⟩ h.ln h.lc (by have := h.lb; rw [e] at this; exact this) (by omega)
end Go.Proofs.YtaooidckmepdeaaDoor
