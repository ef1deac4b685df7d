/- The document's body of a batch: it ends, and its bytes are few. -/
import Derived.Test.YtnnljdnaipjoiaaQc
namespace Go.Proofs.Ytnnljdnaipjoiaa
set_option linter.unusedSimpArgs false
set_option linter.unusedVariables false
open Go.RowKit
theorem lay_8 {B : Nat} {w w0 : World} {a0 : Option Addr} {n0 c0 : Nat} (x : Int) (hown : BR B w a0 n0 c0) (hB : Below B w0 w) (hB0 : B ≤ w0.heap.size) (hl : n0 ≤ 1000) (h : 0 ≤ x ∧ x ≤ 18446744073709551615) :
    Calls Try.prog 57 #[.slice a0 n0 c0, .int .i64 8, .int .u64 x] w fun e w' => ∃ a c, e = .returned (.slice a (n0 + 8) c) ∧ BR B w' a (n0 + 8) c ∧ Below B w0 w' := by
  obtain ⟨n, rfl⟩ := Int.eq_ofNat_of_zero_le h.1
  exact lay_l a0 n0 c0 8 n w w0 B hown hB hB0 hl (by omega) (by omega)
theorem lay_4 {B : Nat} {w w0 : World} {a0 : Option Addr} {n0 c0 : Nat} (x : Int) (hown : BR B w a0 n0 c0) (hB : Below B w0 w) (hB0 : B ≤ w0.heap.size) (hl : n0 ≤ 1000) (h : 0 ≤ x ∧ x ≤ 18446744073709551615) :
    Calls Try.prog 57 #[.slice a0 n0 c0, .int .i64 4, .int .u64 x] w fun e w' => ∃ a c, e = .returned (.slice a (n0 + 4) c) ∧ BR B w' a (n0 + 4) c ∧ Below B w0 w' := by
  obtain ⟨n, rfl⟩ := Int.eq_ofNat_of_zero_le h.1
  exact lay_l a0 n0 c0 4 n w w0 B hown hB hB0 hl (by omega) (by omega)
theorem five_cells {y : World} {b : Nat} {v0 v1 v2 v3 v4 : Value} {t : TypeId} (h : y.heap[b]? = some (.cells #[v0, v1, v2, v3, v4] t (0, 0))) :
    y.cell? ⟨b, 0, none⟩ = some v0 ∧ y.cell? ⟨b, 1, none⟩ = some v1 ∧ y.cell? ⟨b, 2, none⟩ = some v2 ∧ y.cell? ⟨b, 3, none⟩ = some v3 ∧ y.cell? ⟨b, 4, none⟩ = some v4 :=
  ⟨cell_of_row _ _ 0 _ _ _ h, cell_of_row _ _ 1 _ _ _ h, cell_of_row _ _ 2 _ _ _ h, cell_of_row _ _ 3 _ _ _ h, cell_of_row _ _ 4 _ _ _ h⟩
set_option maxHeartbeats 4000000 in
set_option maxRecDepth 100000 in
theorem body_l (base span prod seq : Int) (a : Option Addr) (cap : Nat) (rs : List Rc) (w : World) (hr : RRow w a rs) (h0 : 0 < rs.length) (h2 : rs.length ≤ 2) :
    Calls Try.prog 56 #[.agg #[.int .i64 base, .int .i64 span, .int .i64 prod, .int .i64 seq, .slice a rs.length cap]] w fun e w' => Mk 11000 w e w' := by
  have HBX : Hid (∀ y, Below (w.heap.size + 1) (w.alloc (.cells #[.int .i64 base, .int .i64 span, .int .i64 prod, .int .i64 seq, .slice a rs.length cap] 61)) y → y.cell? ⟨w.heap.size, 0, none⟩ = some (.int .i64 base) ∧ y.cell? ⟨w.heap.size, 1, none⟩ = some (.int .i64 span) ∧ y.cell? ⟨w.heap.size, 2, none⟩ = some (.int .i64 prod) ∧ y.cell? ⟨w.heap.size, 3, none⟩ = some (.int .i64 seq) ∧ y.cell? ⟨w.heap.size, 4, none⟩ = some (.slice a rs.length cap)) := fun y hb => five_cells ((hb.block _ (by omega)).trans (heap_alloc_new w _))
  have HSZ : Hid (w.heap.size + 1 ≤ (w.alloc (.cells #[.int .i64 base, .int .i64 span, .int .i64 prod, .int .i64 seq, .slice a rs.length cap] 61)).heap.size) := by show _ ≤ _; simp
  have HB0 : Hid (Below w.heap.size w (w.alloc (.cells #[.int .i64 base, .int .i64 span, .int .i64 prod, .int .i64 seq, .slice a rs.length cap] 61))) := below_box _
  have HRR : Hid (∀ y, Below (w.heap.size + 1) (w.alloc (.cells #[.int .i64 base, .int .i64 span, .int .i64 prod, .int .i64 seq, .slice a rs.length cap] 61)) y → RRow y a rs) := fun y hb => hr.below (HB0.out.trans (hb.mono (by omega)))
  have HEND : Hid (∀ z a2 n c, BR (w.heap.size + 1) z a2 n c → Below (w.heap.size + 1) (w.alloc (.cells #[.int .i64 base, .int .i64 span, .int .i64 prod, .int .i64 seq, .slice a rs.length cap] 61)) z → BR w.heap.size z a2 n c ∧ Below w.heap.size w z) := fun z a2 n c q1 q2 => ⟨q1.keep (Below.refl _ _) (by omega), HB0.out.trans (q2.mono (by omega))⟩
  obtain ⟨rb, roff, rfl, _⟩ := hr 0 h0
  have HC4 : Hid (∀ y, Below (w.heap.size + 1) (w.alloc (.cells #[.int .i64 base, .int .i64 span, .int .i64 prod, .int .i64 seq, .slice (some ⟨rb, roff, none⟩) rs.length cap] 61)) y → y.cell? ⟨rb, roff + 4, none⟩ = some (.int .i64 (rs.getD 0 rz).t)) := fun y hb => by
    obtain ⟨b', off', e, _, _, _, _, c4, _⟩ := HRR.out y hb 0 h0
    injection e with e
    injection e with e1 e2
    subst e1; subst e2
    simpa using c4
  have h0I : (0 : Int) < (rs.length : Int) := by omega
  have h2I : (rs.length : Int) ≤ 2 := by omega
  have tok1 : True := trivial
  have tok2 : True := trivial
  have tok3 : True := trivial
  have tok4 : True := trivial
  have hb0 := Below.refl (w.heap.size + 1) (w.alloc (.cells #[.int .i64 base, .int .i64 span, .int .i64 prod, .int .i64 seq, .slice (some ⟨rb, roff, none⟩) rs.length cap] 61))
  generalize (rs.getD 0 rz).t = ft at *
  clear hr
  go_enter Try.func56, Try.ntmps56
  go_wp2_with (first
    | (have _t := tok1; go_at_call 57; refine (lay_8 _ (BR.nil _ _) hb0 HSZ.out (by omega) (hu64 _)).mono ?_; clear tok1 _t; rintro e w1 ⟨a1, c1, rfl, hR1, hb1⟩; obtain ⟨z0, z1, z2, z3, z4⟩ := HBX.out w1 hb1)
    | (have _t := tok2; go_at_call 57; refine (lay_8 _ hR1 hb1 HSZ.out (by omega) (hu64 _)).mono ?_; clear tok2 _t z0 z1 z2 z3 z4; rintro e w2 ⟨a2, c2, rfl, hR2, hb2⟩; clear hR1 hb1; obtain ⟨z0, z1, z2, z3, z4⟩ := HBX.out w2 hb2)
    | (have _t := tok3; go_at_call 57; refine (lay_4 _ hR2 hb2 HSZ.out (by omega) (hu64 _)).mono ?_; clear tok3 _t z0 z1 z2 z3 z4; rintro e w3 ⟨a3, c3, rfl, hR3, hb3⟩; clear hR2 hb2; obtain ⟨z0, z1, z2, z3, z4⟩ := HBX.out w3 hb3)
    | (have _t := tok4; go_at_call 57; refine (lay_4 _ hR3 hb3 HSZ.out (by omega) (by first | exact hu64 _ | omega)).mono ?_; clear tok4 _t z0 z1 z2 z3 z4; rintro e w4 ⟨a4, c4, rfl, hR4, hb4⟩; clear hR3 hb3; obtain ⟨z0, z1, z2, z3, z4⟩ := HBX.out w4 hb4; have r4 := HC4.out w4 hb4)
    | (go_at_call 57; refine (lay_8 _ hR4 hb4 HSZ.out (by omega) (hu64 _)).mono ?_; clear z0 z1 z2 z3 z4 r4; rintro e w5 ⟨a5, c5, rfl, hR5, hb5⟩; clear hR4 hb4))
  have HR5 : Hid (BR (w.heap.size + 1) w5 a5 32 c5) := hR5
  have HB5 : Hid (Below (w.heap.size + 1) (w.alloc (.cells #[.int .i64 base, .int .i64 span, .int .i64 prod, .int .i64 seq, .slice (some ⟨rb, roff, none⟩) rs.length cap] 61)) w5) := hb5
  clear hR5 hb5
  go_loopw [3, 4] (fun p i wr => ∃ (k n c : Nat) (a : Option Addr), k ≤ rs.length ∧ i = .int .i64 k ∧ p = .slice a n c ∧ n ≤ 32 + k * 5000 ∧ BR (w.heap.size + 1) wr a n c ∧ Below (w.heap.size + 1) (w.alloc (.cells #[.int .i64 base, .int .i64 span, .int .i64 prod, .int .i64 seq, .slice (some ⟨rb, roff, none⟩) rs.length cap] 61)) wr) (fun _ i _ => rs.length - (intOf i).toNat)
  case atStart => exact ⟨0, 32, c5, a5, by omega, rfl, rfl, by omega, HR5.out, HB5.out⟩
  case round =>
    clear HR5 HB5
    obtain ⟨k, n, c, a, hk, rfl, rfl, hn, hR, hb⟩ := hrel
    obtain ⟨z0, z1, z2, z3, z4⟩ := HBX.out wr hb
    by_cases hlt : k < rs.length
    · have hltI : (k : Int) < (rs.length : Int) := by omega
      have HCK : Hid (∀ y, Below (w.heap.size + 1) (w.alloc (.cells #[.int .i64 base, .int .i64 span, .int .i64 prod, .int .i64 seq, .slice (some ⟨rb, roff, none⟩) rs.length cap] 61)) y → y.cell? ⟨rb, roff + k * 6, none⟩ = some (.bool (rs.getD k rz).hk) ∧ y.cell? ⟨rb, roff + k * 6 + 1, none⟩ = some (.string (rs.getD k rz).k) ∧ y.cell? ⟨rb, roff + k * 6 + 2, none⟩ = some (.bool (rs.getD k rz).hv) ∧ y.cell? ⟨rb, roff + k * 6 + 3, none⟩ = some (.string (rs.getD k rz).v) ∧ y.cell? ⟨rb, roff + k * 6 + 4, none⟩ = some (.int .i64 (rs.getD k rz).t) ∧ y.cell? ⟨rb, roff + k * 6 + 5, none⟩ = some (.int .i64 (rs.getD k rz).o)) := fun y hb => by
        obtain ⟨b', off', e, q⟩ := HRR.out y hb k hlt
        injection e with e
        injection e with e1 e2
        subst e1; subst e2
        exact q
      have HE : Hid (∀ y, Calls Try.prog 60 #[.agg (rs.getD k rz).cells, .int .i64 ft] y fun e z => EncE y e z) := fun y => encode_l _ _ y
      generalize rs.getD k rz = r at *
      obtain ⟨hk', kk, hv, v, t, o⟩ := r
      simp only [Rc.cells] at HCK HE
      have hS0 := And.intro ((HBX.out wr.drew (bel_drew hb)).2.2.2.2) (And.intro (HC4.out wr.drew (bel_drew hb)) (HCK.out wr.drew (bel_drew hb)))
      go_wp2
      go_region_held3 (fun y : World => y.cell? ⟨w.heap.size, 4, none⟩ = some (.slice (some ⟨rb, roff, none⟩) rs.length cap) ∧ y.cell? ⟨rb, roff + 4, none⟩ = some (.int .i64 ft) ∧ y.cell? ⟨rb, roff + k * 6, none⟩ = some (.bool hk') ∧ y.cell? ⟨rb, roff + k * 6 + 1, none⟩ = some (.string kk) ∧ y.cell? ⟨rb, roff + k * 6 + 2, none⟩ = some (.bool hv) ∧ y.cell? ⟨rb, roff + k * 6 + 3, none⟩ = some (.string v) ∧ y.cell? ⟨rb, roff + k * 6 + 4, none⟩ = some (.int .i64 t) ∧ y.cell? ⟨rb, roff + k * 6 + 5, none⟩ = some (.int .i64 o)) (first | exact hS1 | exact hS0) ((go_at_call 60; refine (HE.out _).mono ?_; rintro e w6 ⟨a6, n6, c6, q6, rfl, hn6, hR6, hb6⟩; have hR6' := (BR.drew hR).below hb6; have hb6' := bel_on (bel_drew hb) HSZ.out hb6; have hS1 := And.intro ((HBX.out w6 hb6').2.2.2.2) (And.intro (HC4.out w6 hb6') (HCK.out w6 hb6'))))
      clear hS0 hS1 z0 z1 z2 z3 z4 hR hb hb6 HE HCK
      go_wp2_with (at_builtin; refine wpList_app_bytes (by rfl) _ _ rfl _ _ _ _ _ rfl hR6' hb6' (Nat.le_trans HSZ.out hb6'.size) _ _ _ rfl hR6 (by omega) ?_; intro a7 c7 w7 hR7 hb7)
      exact ⟨⟨k + 1, n + n6, c7, a7, by omega, by go_num, rfl, by omega, hR7, hb7⟩, by simp [intOf]; omega⟩
    · obtain rfl : k = rs.length := by omega
      go_wp2
      go_ret
      obtain ⟨q1, q2⟩ := HEND.out _ _ _ _ hR hb
      exact ⟨_, _, _, rfl, by omega, q1, q2⟩
end Go.Proofs.Ytnnljdnaipjoiaa
