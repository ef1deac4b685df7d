/- The document's CheckBatch, EncodeBatch, Size: they end, and tell something. -/
import Derived.Test.YtnnljdnaipjoiaaQd
import Derived.Deep.DeepCutAuto
import Derived.Deep.CutRange
namespace Go.Proofs.Ytnnljdnaipjoiaa
set_option linter.unusedSimpArgs false
set_option linter.unusedVariables false
open Go.RowKit
/-- What CheckBatch tells: 0 of none without records. -/
def CbE (rs : List Rc) (e : Ending) : Prop := ∃ c : Int, e = .returned (.int .i64 c) ∧ (c = 0 → 0 < rs.length)
theorem CbE.one (rs : List Rc) : CbE rs (.returned (.int .i64 1)) := ⟨1, rfl, fun h => by omega⟩
set_option maxHeartbeats 4000000 in
set_option maxRecDepth 100000 in
theorem checkBatch_none (base span prod seq : Int) (a : Option Addr) (cap : Nat) (w : World) :
    Calls Try.prog 53 #[.agg #[.int .i64 base, .int .i64 span, .int .i64 prod, .int .i64 seq, .slice a 0 cap]] w fun e w' => e = .returned (.int .i64 1) ∧ Below w.heap.size w w' := by
  go_enter Try.func53, Try.ntmps53
  go_wp2_with fail
  all_goals
    go_ret
    exact ⟨rfl, below_box _⟩
set_option maxHeartbeats 4000000 in
set_option maxRecDepth 100000 in
theorem checkBatch_l (base span prod seq : Int) (a : Option Addr) (cap : Nat) (rs : List Rc) (w : World) (hr : RRow w a rs) (h2 : rs.length ≤ 2) :
    Calls Try.prog 53 #[.agg #[.int .i64 base, .int .i64 span, .int .i64 prod, .int .i64 seq, .slice a rs.length cap]] w fun e w' => CbE rs e ∧ Below w.heap.size w w' := by
  by_cases h0 : rs.length = 0
  · rw [h0]
    exact (checkBatch_none base span prod seq a cap w).mono fun e z ⟨q1, q2⟩ => ⟨⟨1, q1, fun h => by omega⟩, q2⟩
  have hyes : ∀ c : Int, CbE rs (.returned (.int .i64 c)) := fun c => ⟨c, rfl, fun _ => by omega⟩
  have HY : Hid (∀ c : Int, CbE rs (.returned (.int .i64 c))) := hyes
  have HBX : Hid (∀ y, Below (w.heap.size + 1) (w.alloc (.cells #[.int .i64 base, .int .i64 span, .int .i64 prod, .int .i64 seq, .slice a rs.length cap] 61)) y → y.cell? ⟨w.heap.size, 0, none⟩ = some (.int .i64 base) ∧ y.cell? ⟨w.heap.size, 1, none⟩ = some (.int .i64 span) ∧ y.cell? ⟨w.heap.size, 2, none⟩ = some (.int .i64 prod) ∧ y.cell? ⟨w.heap.size, 3, none⟩ = some (.int .i64 seq) ∧ y.cell? ⟨w.heap.size, 4, none⟩ = some (.slice a rs.length cap)) := fun y hb => five_cells ((hb.block _ (by omega)).trans (heap_alloc_new w _))
  have HSZ : Hid (w.heap.size + 1 ≤ (w.alloc (.cells #[.int .i64 base, .int .i64 span, .int .i64 prod, .int .i64 seq, .slice a rs.length cap] 61)).heap.size) := by show _ ≤ _; simp
  have HB0 : Hid (Below w.heap.size w (w.alloc (.cells #[.int .i64 base, .int .i64 span, .int .i64 prod, .int .i64 seq, .slice a rs.length cap] 61))) := below_box _
  have HRR : Hid (∀ y, Below (w.heap.size + 1) (w.alloc (.cells #[.int .i64 base, .int .i64 span, .int .i64 prod, .int .i64 seq, .slice a rs.length cap] 61)) y → RRow y a rs) := fun y hb => hr.below (HB0.out.trans (hb.mono (by omega)))
  have HEND : Hid (∀ z, Below (w.heap.size + 1) (w.alloc (.cells #[.int .i64 base, .int .i64 span, .int .i64 prod, .int .i64 seq, .slice a rs.length cap] 61)) z → Below w.heap.size w z) := fun z q2 => HB0.out.trans (q2.mono (by omega))
  have HBD : Hid (∀ y, Below (w.heap.size + 1) (w.alloc (.cells #[.int .i64 base, .int .i64 span, .int .i64 prod, .int .i64 seq, .slice a rs.length cap] 61)) y → Calls Try.prog 56 #[.agg #[.int .i64 base, .int .i64 span, .int .i64 prod, .int .i64 seq, .slice a rs.length cap]] y fun e w' => Mk 11000 y e w') := fun y hb => body_l base span prod seq a cap rs y (HRR.out y hb) (by omega) h2
  obtain ⟨rb, roff, rfl, _⟩ := hr 0 (by omega)
  have h0I : ¬ (rs.length : Int) = 0 := by omega
  have h0B : ((rs.length : Int) == 0) = false := by rw [beq_eq_false_iff_ne]; omega
  have h2I : (rs.length : Int) ≤ 2 := by omega
  have HR0 : Hid (Below (w.heap.size + 1) (w.alloc (.cells #[.int .i64 base, .int .i64 span, .int .i64 prod, .int .i64 seq, .slice (some ⟨rb, roff, none⟩) rs.length cap] 61)) (w.alloc (.cells #[.int .i64 base, .int .i64 span, .int .i64 prod, .int .i64 seq, .slice (some ⟨rb, roff, none⟩) rs.length cap] 61))) := Below.refl _ _
  clear hr hyes
  go_enter Try.func53, Try.ntmps53
  go_upto_region 1 with fail
  go_cut [42] (fun s42 wc => ∃ b, s42 = .bool b ∧ wc = w.alloc (.cells #[.int .i64 base, .int .i64 span, .int .i64 prod, .int .i64 seq, .slice (some ⟨rb, roff, none⟩) rs.length cap] 61))
  case first =>
    go_wp2_with fail
    all_goals
      go_meet
      case rel => exact ⟨_, rfl, rfl⟩
  case rest =>
    obtain ⟨b, rfl, hwc⟩ := hcut
    have HRC : Hid (Below (w.heap.size + 1) (w.alloc (.cells #[.int .i64 base, .int .i64 span, .int .i64 prod, .int .i64 seq, .slice (some ⟨rb, roff, none⟩) rs.length cap] 61)) wc) := by rw [hwc]; exact HR0.out
    clear HR0 hwc
    cases b
    · go_wp2_with fail
      go_loopw [3, 4] (fun p i wr => ∃ (k : Nat) (q : Int), k ≤ rs.length ∧ i = .int .i64 k ∧ p = .int .i64 q ∧ Below (w.heap.size + 1) (w.alloc (.cells #[.int .i64 base, .int .i64 span, .int .i64 prod, .int .i64 seq, .slice (some ⟨rb, roff, none⟩) rs.length cap] 61)) wr) (fun _ i _ => rs.length - (intOf i).toNat)
      case atStart => exact ⟨0, -1, by omega, rfl, rfl, HRC.out⟩
      case round =>
        clear HRC
        obtain ⟨k, q, hk, rfl, rfl, hb⟩ := hrel
        obtain ⟨z0, z1, z2, z3, z4⟩ := HBX.out wr hb
        by_cases hlt : k < rs.length
        · have hltI : (k : Int) < (rs.length : Int) := by omega
          obtain ⟨b', off', e, c0, c1, c2, c3, c4, c5⟩ := HRR.out wr hb k hlt
          injection e with e
          injection e with e1 e2
          subst e1; subst e2
          generalize rs.getD k rz = r at *
          obtain ⟨hk', kk, hv, v, t, o⟩ := r
          simp only at c0 c1 c2 c3 c4 c5
          have hz1 := World.block_lt_of_cell? _ _ z0
          simp only at hz1
          have hb1 : Below (w.heap.size + 1) (w.alloc (.cells #[.int .i64 base, .int .i64 span, .int .i64 prod, .int .i64 seq, .slice (some ⟨rb, roff, none⟩) rs.length cap] 61)) (wr.alloc (.cells #[.bool hk', .string kk, .bool hv, .string v, .int .i64 t, .int .i64 o] 48)) := hb.alloc (Nat.le_trans HSZ.out hb.size) _
          go_wp2_with fail
          all_goals first
            | (go_ret; exact ⟨CbE.one rs, HEND.out _ hb1⟩)
            | exact ⟨⟨k + 1, o, by omega, by go_num, rfl, hb1⟩, by simp [intOf]; omega⟩
        · obtain rfl : k = rs.length := by omega
          have HRC : Hid (Below (w.heap.size + 1) (w.alloc (.cells #[.int .i64 base, .int .i64 span, .int .i64 prod, .int .i64 seq, .slice (some ⟨rb, roff, none⟩) rs.length cap] 61)) wr) := hb
          clear hb
          go_wp2_with fail
          clear z0 z1 z2 z3 z4
          go_loopw [6, 7] (fun p i wr => ∃ (k : Nat) (n : Int), k ≤ rs.length ∧ i = .int .i64 k ∧ p = .int .i64 n ∧ Below (w.heap.size + 1) (w.alloc (.cells #[.int .i64 base, .int .i64 span, .int .i64 prod, .int .i64 seq, .slice (some ⟨rb, roff, none⟩) rs.length cap] 61)) wr) (fun _ i _ => rs.length - (intOf i).toNat)
          case atStart => exact ⟨0, 0, by omega, rfl, rfl, HRC.out⟩
          case round =>
            clear HRC
            obtain ⟨k, n, hk, rfl, rfl, hb⟩ := hrel
            obtain ⟨z0, z1, z2, z3, z4⟩ := HBX.out wr hb
            by_cases hlt : k < rs.length
            · have hltI : (k : Int) < (rs.length : Int) := by omega
              have HCK : Hid (∀ y, Below (w.heap.size + 1) (w.alloc (.cells #[.int .i64 base, .int .i64 span, .int .i64 prod, .int .i64 seq, .slice (some ⟨rb, roff, none⟩) rs.length cap] 61)) y → y.cell? ⟨rb, roff + k * 6, none⟩ = some (.bool (rs.getD k rz).hk) ∧ y.cell? ⟨rb, roff + k * 6 + 1, none⟩ = some (.string (rs.getD k rz).k) ∧ y.cell? ⟨rb, roff + k * 6 + 2, none⟩ = some (.bool (rs.getD k rz).hv) ∧ y.cell? ⟨rb, roff + k * 6 + 3, none⟩ = some (.string (rs.getD k rz).v) ∧ y.cell? ⟨rb, roff + k * 6 + 4, none⟩ = some (.int .i64 (rs.getD k rz).t) ∧ y.cell? ⟨rb, roff + k * 6 + 5, none⟩ = some (.int .i64 (rs.getD k rz).o)) := fun y hb => by
                obtain ⟨b', off', e, q⟩ := HRR.out y hb k hlt
                injection e with e
                injection e with e1 e2
                subst e1; subst e2
                exact q
              have HE : Hid (∀ y, Calls Try.prog 55 #[.agg (rs.getD k rz).cells] y fun e z => ChkE (rs.getD k rz) e ∧ Below y.heap.size y z) := fun y => check_l _ y
              generalize rs.getD k rz = r at *
              obtain ⟨hk', kk, hv, v, t, o⟩ := r
              simp only [Rc.cells] at HCK HE
              obtain ⟨c0, c1, c2, c3, c4, c5⟩ := HCK.out wr hb
              go_wp2_with (go_at_call 55; refine (HE.out _).mono ?_; rintro e w1 ⟨⟨q, rfl, hq⟩, hb1⟩; have hb1' := bel_on hb HSZ.out hb1; clear hq hb1 c0 c1 c2 c3 c4 c5 z0 z1 z2 z3 z4; rcases Decidable.em (q = 0) with rfl | hq0)
              · have hc6 := HCK.out w1.drew (bel_drew hb1')
                have hS0 := And.intro ((HBX.out w1.drew (bel_drew hb1')).2.2.2.2) (And.intro hc6.2.1 hc6.2.2.2.1)
                go_region_held3 (fun y : World => y.cell? ⟨w.heap.size, 4, none⟩ = some (.slice (some ⟨rb, roff, none⟩) rs.length cap) ∧ y.cell? ⟨rb, roff + k * 6 + 1, none⟩ = some (.string kk) ∧ y.cell? ⟨rb, roff + k * 6 + 3, none⟩ = some (.string v)) (exact hS0) (fail)
                go_wp2
                exact ⟨⟨k + 1, _, by omega, by go_num, rfl, bel_drew hb1'⟩, by simp [intOf]; omega⟩
              · go_ret
                exact ⟨HY.out q, HEND.out w1 hb1'⟩
            · obtain rfl : k = rs.length := by omega
              have HM : Hid _ := HBD.out wr hb
              go_wp2_with (go_at_call 56; refine (HBD.out wr hb).mono ?_; rintro e w1 ⟨a1, n1, c1, rfl, hn1, hR1, hb1⟩; have hb1' := bel_on hb HSZ.out hb1; clear hR1 hb1)
              all_goals
                go_ret
                first | exact ⟨HY.out _, HEND.out w1 hb1'⟩ | exact ⟨HY.out _, HEND.out wr hb⟩
    · go_wp2_with fail
      go_ret
      exact ⟨CbE.one rs, HEND.out wc HRC.out⟩
end Go.Proofs.Ytnnljdnaipjoiaa
