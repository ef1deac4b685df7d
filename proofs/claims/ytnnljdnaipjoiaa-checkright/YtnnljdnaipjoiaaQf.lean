/- The document's EncodeBatch and Size: they end, and tell something. -/
import Derived.Test.YtnnljdnaipjoiaaQe
namespace Go.Proofs.Ytnnljdnaipjoiaa
set_option linter.unusedSimpArgs false
set_option linter.unusedVariables false
open Go.RowKit
theorem sum_n {B : Nat} {w : World} {a : Option Addr} {n c : Nat} (h : BR B w a n c) : Calls Try.prog 58 #[.slice a n c] w fun e w' => U32 e ∧ w' = w := by
  obtain ⟨l, rfl, hr, _, hm⟩ := h.row
  exact sum_l a c l w hr hm
def EbE (w : World) (e : Ending) (z : World) : Prop := ∃ a n c, ∃ q : Int, e = .returned (.tuple #[.slice a n c, .int .i64 q]) ∧ Below w.heap.size w z
set_option maxHeartbeats 4000000 in
set_option maxRecDepth 100000 in
theorem encodeBatch_l (base span prod seq : Int) (a : Option Addr) (cap : Nat) (rs : List Rc) (w : World) (hr : RRow w a rs) (h2 : rs.length ≤ 2) :
    Calls Try.prog 54 #[.agg #[.int .i64 base, .int .i64 span, .int .i64 prod, .int .i64 seq, .slice a rs.length cap]] w fun e w' => EbE w e w' := by
  have HBX : Hid (∀ y, Below (w.heap.size + 1) (w.alloc (.cells #[.int .i64 base, .int .i64 span, .int .i64 prod, .int .i64 seq, .slice a rs.length cap] 61)) y → y.cell? ⟨w.heap.size, 0, none⟩ = some (.int .i64 base) ∧ y.cell? ⟨w.heap.size, 1, none⟩ = some (.int .i64 span) ∧ y.cell? ⟨w.heap.size, 2, none⟩ = some (.int .i64 prod) ∧ y.cell? ⟨w.heap.size, 3, none⟩ = some (.int .i64 seq) ∧ y.cell? ⟨w.heap.size, 4, none⟩ = some (.slice a rs.length cap)) := fun y hb => five_cells ((hb.block _ (by omega)).trans (heap_alloc_new w _))
  have HSZ : Hid (w.heap.size + 1 ≤ (w.alloc (.cells #[.int .i64 base, .int .i64 span, .int .i64 prod, .int .i64 seq, .slice a rs.length cap] 61)).heap.size) := by show _ ≤ _; simp
  have HB0 : Hid (Below w.heap.size w (w.alloc (.cells #[.int .i64 base, .int .i64 span, .int .i64 prod, .int .i64 seq, .slice a rs.length cap] 61))) := below_box _
  have HRR : Hid (∀ y, Below (w.heap.size + 1) (w.alloc (.cells #[.int .i64 base, .int .i64 span, .int .i64 prod, .int .i64 seq, .slice a rs.length cap] 61)) y → RRow y a rs) := fun y hb => hr.below (HB0.out.trans (hb.mono (by omega)))
  have HEND : Hid (∀ z, Below (w.heap.size + 1) (w.alloc (.cells #[.int .i64 base, .int .i64 span, .int .i64 prod, .int .i64 seq, .slice a rs.length cap] 61)) z → Below w.heap.size w z) := fun z q2 => HB0.out.trans (q2.mono (by omega))
  have HBD : Hid (∀ y, Below (w.heap.size + 1) (w.alloc (.cells #[.int .i64 base, .int .i64 span, .int .i64 prod, .int .i64 seq, .slice a rs.length cap] 61)) y → 0 < rs.length → Calls Try.prog 56 #[.agg #[.int .i64 base, .int .i64 span, .int .i64 prod, .int .i64 seq, .slice a rs.length cap]] y fun e w' => Mk 11000 y e w') := fun y hb h0 => body_l base span prod seq a cap rs y (HRR.out y hb) h0 h2
  have HCB : Hid (∀ y, Below (w.heap.size + 1) (w.alloc (.cells #[.int .i64 base, .int .i64 span, .int .i64 prod, .int .i64 seq, .slice a rs.length cap] 61)) y → Calls Try.prog 53 #[.agg #[.int .i64 base, .int .i64 span, .int .i64 prod, .int .i64 seq, .slice a rs.length cap]] y fun e w' => CbE rs e ∧ Below y.heap.size y w') := fun y hb => checkBatch_l base span prod seq a cap rs y (HRR.out y hb) h2
  have HR0 := Below.refl (w.heap.size + 1) (w.alloc (.cells #[.int .i64 base, .int .i64 span, .int .i64 prod, .int .i64 seq, .slice a rs.length cap] 61))
  have tok1 : True := trivial
  have tok2 : True := trivial
  clear hr
  go_enter Try.func54, Try.ntmps54
  go_wp2_with (first
    | (go_at_call 53; refine (HCB.out _ HR0).mono ?_; rintro e w1 ⟨⟨q, rfl, hq⟩, hb⟩; have hb1 := bel_on HR0 HSZ.out hb; clear hb; obtain ⟨z0, z1, z2, z3, z4⟩ := HBX.out w1 hb1; rcases Decidable.em (q = 0) with rfl | hq0)
    | (go_at_call 56; refine (HBD.out w1 hb1 (hq (by trivial))).mono ?_; rintro e w2 ⟨a2, n2, c2, rfl, hn2, hR2, hb⟩; have hb2 := bel_on hb1 HSZ.out hb; clear hb z0 z1 z2 z3 z4; obtain ⟨z0, z1, z2, z3, z4⟩ := HBX.out w2 hb2)
    | (have _t := tok1; go_at_call 57; refine (lay_8 _ (BR.nil w2.heap.size _) (Below.refl w2.heap.size w2) (Nat.le_refl _) (by omega) (hu64 _)).mono ?_; clear tok1 _t; rintro e w3 ⟨a3, c3, rfl, hR3, hb3⟩; clear z0 z1 z2 z3 z4)
    | (have _t := tok2; go_at_call 57; refine (lay_4 _ hR3 hb3 (Nat.le_refl _) (by omega) (by first | exact hu64 _ | omega)).mono ?_; clear tok2 _t; rintro e w4 ⟨a4, c4, rfl, hR4, hb4⟩)
    | (go_at_call 58; refine (sum_n (hR2.below hb4)).mono ?_; rintro e w4' ⟨⟨u, hu, rfl⟩, hw⟩; subst hw)
    | (go_at_call 57; refine (lay_4 _ hR4 hb4 (Nat.le_refl _) (by omega) (by first | exact hu64 _ | omega)).mono ?_; rintro e w5 ⟨a5, c5, rfl, hR5, hb5⟩; have hR2' := hR2.below hb5)
    | (at_builtin; refine wpList_app_bytes (by rfl) _ _ rfl _ _ _ _ _ rfl hR5 hb5 hb5.size _ _ _ rfl hR2' (by omega) ?_; intro a6 c6 w6 hR6 hb6; have hb6' := bel_on hb2 HSZ.out hb6))
  · go_ret2
    exact ⟨_, _, _, _, rfl, HEND.out w6 hb6'⟩
  · go_ret2
    exact ⟨_, _, _, _, rfl, HEND.out w1 hb1⟩
set_option maxRecDepth 100000 in
theorem size_l (base span prod seq : Int) (a : Option Addr) (cap : Nat) (rs : List Rc) (w : World) (hr : RRow w a rs) (h2 : rs.length ≤ 2) :
    Calls Try.prog 40 #[.agg #[.int .i64 base, .int .i64 span, .int .i64 prod, .int .i64 seq, .slice a rs.length cap]] w fun e w' => (∃ n : Int, e = .returned (.int .i64 n)) ∧ Below w.heap.size w w' := by
  have HB0 : Hid (Below w.heap.size w (w.alloc (.cells #[.int .i64 base, .int .i64 span, .int .i64 prod, .int .i64 seq, .slice a rs.length cap] 61))) := below_box _
  have HE : Hid _ := encodeBatch_l base span prod seq a cap rs (w.alloc (.cells #[.int .i64 base, .int .i64 span, .int .i64 prod, .int .i64 seq, .slice a rs.length cap] 61)) (hr.below HB0.out) h2
  obtain ⟨z0, z1, z2, z3, z4⟩ := five_cells (heap_alloc_new w (.cells #[.int .i64 base, .int .i64 span, .int .i64 prod, .int .i64 seq, .slice a rs.length cap] 61))
  go_enter Try.func40, Try.ntmps40
  go_wp2_with (go_at_call 54; refine Calls.mono HE.out ?_; rintro e w1 ⟨a1, n1, c1, q, rfl, hb⟩)
  go_ret
  exact ⟨⟨_, rfl⟩, HB0.out.trans (hb.mono HB0.out.size)⟩
end Go.Proofs.Ytnnljdnaipjoiaa
