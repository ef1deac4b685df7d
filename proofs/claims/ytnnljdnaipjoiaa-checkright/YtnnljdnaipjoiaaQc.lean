/- The document's Encode of a record: it ends, and its bytes are few. -/
import Derived.Test.YtnnljdnaipjoiaaQb
import Derived.Deep.RegionHeld3
namespace Go.Proofs.Ytnnljdnaipjoiaa
set_option linter.unusedSimpArgs false
set_option linter.unusedVariables false
open Go.RowKit
theorem varint_i (x : Int) (w : World) (h : 0 ≤ x ∧ x ≤ 18446744073709551615) : Calls Try.prog 62 #[.int .u64 x] w fun e w' => Mk 11 w e w' := by
  obtain ⟨n, rfl⟩ := Int.eq_ofNat_of_zero_le h.1
  exact varint_l n w (by omega)
theorem hu64 (x : Int) : 0 ≤ IntKind.u64.wrap x ∧ IntKind.u64.wrap x ≤ 18446744073709551615 := by rw [IntKind.wrap_u64]; omega
theorem BR.drew {B : Nat} {w : World} {a : Option Addr} {n c : Nat} (h : BR B w a n c) : BR B w.drew a n c := h
theorem bel_drew {B : Nat} {a w : World} (h : Below B a w) : Below B a w.drew := ⟨h.os, h.tape, h.output, h.size, h.block⟩
theorem bel_on {B : Nat} {a y z : World} (h : Below B a y) (hB : B ≤ a.heap.size) (hb : Below y.heap.size y z) : Below B a z := h.trans (hb.mono (Nat.le_trans hB h.size))
theorem rec_cells {y : World} {g : Nat} {b0 b1 : Bool} {k v : ByteArray} {t o : Int} (h : y.heap[g]? = some (.cells #[.bool b0, .string k, .bool b1, .string v, .int .i64 t, .int .i64 o] 48 (0, 0))) :
    y.cell? ⟨g, 0, none⟩ = some (.bool b0) ∧ y.cell? ⟨g, 1, none⟩ = some (.string k) ∧ y.cell? ⟨g, 2, none⟩ = some (.bool b1) ∧ y.cell? ⟨g, 3, none⟩ = some (.string v) ∧ y.cell? ⟨g, 4, none⟩ = some (.int .i64 t) ∧ y.cell? ⟨g, 5, none⟩ = some (.int .i64 o) :=
  ⟨cell_of_row _ _ 0 _ _ _ h, cell_of_row _ _ 1 _ _ _ h, cell_of_row _ _ 2 _ _ _ h, cell_of_row _ _ 3 _ _ _ h, cell_of_row _ _ 4 _ _ _ h, cell_of_row _ _ 5 _ _ _ h⟩
/-- What Encode tells. -/
def EncE (w : World) (e : Ending) (z : World) : Prop := ∃ a n c, ∃ q : Int, e = .returned (.tuple #[.slice a n c, .int .i64 q]) ∧ n ≤ 5000 ∧ BR w.heap.size z a n c ∧ Below w.heap.size w z
set_option maxHeartbeats 4000000 in
set_option maxRecDepth 100000 in
theorem encode_l (r : Rc) (first : Int) (w : World) : Calls Try.prog 60 #[.agg r.cells, .int .i64 first] w fun e w' => EncE w e w' := by
  obtain ⟨hk, k, hv, v, t, o⟩ := r
  have HC : Hid (∀ y, Calls Try.prog 55 #[.agg #[.bool hk, .string k, .bool hv, .string v, .int .i64 t, .int .i64 o]] y fun e z => ChkE ⟨hk, k, hv, v, t, o⟩ e ∧ Below y.heap.size y z) := fun y => check_l ⟨hk, k, hv, v, t, o⟩ y
  have HBX : Hid (∀ y, Below (w.heap.size + 1) (w.alloc (.cells #[.bool hk, .string k, .bool hv, .string v, .int .i64 t, .int .i64 o] 48)) y → y.cell? ⟨w.heap.size, 0, none⟩ = some (.bool hk) ∧ y.cell? ⟨w.heap.size, 1, none⟩ = some (.string k) ∧ y.cell? ⟨w.heap.size, 2, none⟩ = some (.bool hv) ∧ y.cell? ⟨w.heap.size, 3, none⟩ = some (.string v) ∧ y.cell? ⟨w.heap.size, 4, none⟩ = some (.int .i64 t) ∧ y.cell? ⟨w.heap.size, 5, none⟩ = some (.int .i64 o)) := fun y hb => rec_cells ((hb.block _ (by omega)).trans (heap_alloc_new w _))
  have HSZ : Hid (w.heap.size + 1 ≤ (w.alloc (.cells #[.bool hk, .string k, .bool hv, .string v, .int .i64 t, .int .i64 o] 48)).heap.size) := by show _ ≤ _; simp
  have HB0 : Hid (Below w.heap.size w (w.alloc (.cells #[.bool hk, .string k, .bool hv, .string v, .int .i64 t, .int .i64 o] 48))) := below_box _
  have HEND : Hid (∀ z a n c, BR (w.heap.size + 1) z a n c → Below (w.heap.size + 1) (w.alloc (.cells #[.bool hk, .string k, .bool hv, .string v, .int .i64 t, .int .i64 o] 48)) z → BR w.heap.size z a n c ∧ Below w.heap.size w z) := fun z a n c h1 h2 => ⟨h1.keep (Below.refl _ _) (by omega), HB0.out.trans (h2.mono (by omega))⟩
  simp only [Rc.cells]
  have b1 : bits .or .u8 0 2 = 2 := by decide
  have b2 : bits .or .u8 1 2 = 3 := by decide
  cases hk <;> cases hv
  · have tok1 : True := trivial
    have tok2 : True := trivial
    go_enter Try.func60, Try.ntmps60
    go_wp2_with (first
      | (go_at_call 55; refine (HC.out _).mono ?_; rintro e w1 ⟨⟨q, rfl, hq⟩, hb⟩; have hb1 := bel_on (Below.refl _ _) HSZ.out hb; obtain ⟨z0, z1, z2, z3, z4, z5⟩ := HBX.out w1 hb1; have hz1 := World.block_lt_of_cell? _ _ z0; simp only at hz1; rcases Decidable.em (q = 0) with rfl | hq0)
      | (go_at_call 62; have _t := tok1; refine (varint_i _ _ (hu64 _)).mono ?_; clear tok1 _t; rintro e w2 ⟨a2, n2, c2, rfl, hn2, hR2, hb2⟩; have hR1 := (BR.one w1 (w.heap.size + 1) _ (by decide) (by decide) (Nat.le_trans HSZ.out hb1.size)).below hb2; have hb12 := bel_on (hb1.alloc (Nat.le_trans HSZ.out hb1.size) _) HSZ.out hb2; clear z0 z1 z2 z3 z4 z5 hb2 hz1)
      | (at_builtin; have _t := tok2; refine wpList_app_bytes (by rfl) _ _ rfl _ _ _ _ _ rfl hR1 hb12 (Nat.le_trans HSZ.out hb12.size) _ _ _ rfl hR2 (by omega) ?_; clear tok2 _t; intro a3 c3 w3 hR3 hb3; obtain ⟨z0, z1, z2, z3, z4, z5⟩ := HBX.out w3 hb3)
      | (go_at_call 63; refine (zig_l _ _).mono ?_; rintro e w4 ⟨⟨zq, hzq, rfl⟩, hw⟩; subst hw)
      | (go_at_call 62; refine (varint_i _ _ (by omega)).mono ?_; rintro e w5 ⟨a5, n5, c5, rfl, hn5, hR5, hb5⟩; have hR4 := hR3.below hb5; have hb45 := bel_on hb3 HSZ.out hb5; clear z0 z1 z2 z3 z4 z5 hb5)
      | (at_builtin; refine wpList_app_bytes (by rfl) _ _ rfl _ _ _ _ _ rfl hR4 hb45 (Nat.le_trans HSZ.out hb45.size) _ _ _ rfl hR5 (by omega) ?_; intro a6 c6 w6 hR6 hb6; obtain ⟨z0, z1, z2, z3, z4, z5⟩ := HBX.out w6 hb6; clear hR1 hR2 hR3 hR4 hR5 hb12 hb3 hb45))
    · go_ret2
      obtain ⟨q1, q2⟩ := HEND.out w1 none 0 0 (BR.nil _ _) hb1
      exact ⟨_, _, _, _, rfl, by omega, q1, q2⟩
    · have hk2 : k.size ≤ 2000 := (hq (by trivial)).1
      have hv2 : v.size ≤ 2000 := (hq (by trivial)).2
      go_ret2
      obtain ⟨q1, q2⟩ := HEND.out _ _ _ _ hR6 hb6
      exact ⟨_, _, _, _, rfl, by omega, q1, q2⟩
    all_goals
      go_ret2
      obtain ⟨q1, q2⟩ := HEND.out w1 none 0 0 (BR.nil _ _) hb1
      exact ⟨_, _, _, _, rfl, by omega, q1, q2⟩
  · have tok1 : True := trivial
    have tok2 : True := trivial
    go_enter Try.func60, Try.ntmps60
    go_wp2_with (first
      | (go_at_call 55; refine (HC.out _).mono ?_; rintro e w1 ⟨⟨q, rfl, hq⟩, hb⟩; have hb1 := bel_on (Below.refl _ _) HSZ.out hb; obtain ⟨z0, z1, z2, z3, z4, z5⟩ := HBX.out w1 hb1; have hz1 := World.block_lt_of_cell? _ _ z0; simp only at hz1; rcases Decidable.em (q = 0) with rfl | hq0)
      | (go_at_call 62; have _t := tok1; refine (varint_i _ _ (hu64 _)).mono ?_; clear tok1 _t; rintro e w2 ⟨a2, n2, c2, rfl, hn2, hR2, hb2⟩; have hR1 := (BR.one w1 (w.heap.size + 1) _ (by decide) (by decide) (Nat.le_trans HSZ.out hb1.size)).below hb2; have hb12 := bel_on (hb1.alloc (Nat.le_trans HSZ.out hb1.size) _) HSZ.out hb2; clear z0 z1 z2 z3 z4 z5 hb2 hz1)
      | (at_builtin; have _t := tok2; refine wpList_app_bytes (by rfl) _ _ rfl _ _ _ _ _ rfl hR1 hb12 (Nat.le_trans HSZ.out hb12.size) _ _ _ rfl hR2 (by omega) ?_; clear tok2 _t; intro a3 c3 w3 hR3 hb3; obtain ⟨z0, z1, z2, z3, z4, z5⟩ := HBX.out w3 hb3)
      | (go_at_call 63; refine (zig_l _ _).mono ?_; rintro e w4 ⟨⟨zq, hzq, rfl⟩, hw⟩; subst hw)
      | (go_at_call 62; refine (varint_i _ _ (by omega)).mono ?_; rintro e w5 ⟨a5, n5, c5, rfl, hn5, hR5, hb5⟩; have hR4 := hR3.below hb5; have hb45 := bel_on hb3 HSZ.out hb5; clear z0 z1 z2 z3 z4 z5 hb5)
      | (at_builtin; refine wpList_app_bytes (by rfl) _ _ rfl _ _ _ _ _ rfl hR4 hb45 (Nat.le_trans HSZ.out hb45.size) _ _ _ rfl hR5 (by omega) ?_; intro a6 c6 w6 hR6 hb6; obtain ⟨z0, z1, z2, z3, z4, z5⟩ := HBX.out w6 hb6; clear hR1 hR2 hR3 hR4 hR5 hb12 hb3 hb45))
    · go_ret2
      obtain ⟨q1, q2⟩ := HEND.out w1 none 0 0 (BR.nil _ _) hb1
      exact ⟨_, _, _, _, rfl, by omega, q1, q2⟩
    · have hk2 : k.size ≤ 2000 := (hq (by trivial)).1
      have hv2 : v.size ≤ 2000 := (hq (by trivial)).2
      have hS6 := (HBX.out w6.drew (bel_drew hb6)).2.2.2.1
      go_region_held3 (fun y : World => y.cell? ⟨w.heap.size, 3, none⟩ = some (.string v)) (first | exact hS9 | exact hS8 | exact hS7 | exact hS6) ((first
        | (go_at_call 62; refine (varint_i _ _ (by first | exact hu64 _ | omega)).mono ?_; rintro e w7 ⟨a7, n7, c7, rfl, hn7, hR7, hb7⟩; have hR7' := (BR.drew hR6).below hb7; have hb7' := bel_on (bel_drew hb6) HSZ.out hb7; have hS7 := (HBX.out w7 hb7').2.2.2.1)
        | (refine wp_app_bytes _ _ rfl _ _ _ _ _ rfl hR7' hb7' (Nat.le_trans HSZ.out hb7'.size) _ _ _ rfl hR7 (by omega) ?_; intro a8 c8 w8 hR8 hb8; have hS8 := (HBX.out w8 hb8).2.2.2.1)
        | (refine wp_app_text _ _ rfl _ _ _ _ _ rfl hR8 hb8 (Nat.le_trans HSZ.out hb8.size) _ rfl (by omega) ?_; intro a9 c9 w9 hR9 hb9; have hS9 := (HBX.out w9 hb9).2.2.2.1)))
      obtain ⟨z0, z1, z2, z3, z4, z5⟩ := HBX.out w9 hb9
      clear hS6 hS7 hS8 hS9 hR7 hR7' hb7' hR8 hb8 hR6 hb6
      go_wp2
      go_ret2
      obtain ⟨q1, q2⟩ := HEND.out _ _ _ _ hR9 hb9
      exact ⟨_, _, _, _, rfl, by omega, q1, q2⟩
    all_goals
      go_ret2
      obtain ⟨q1, q2⟩ := HEND.out w1 none 0 0 (BR.nil _ _) hb1
      exact ⟨_, _, _, _, rfl, by omega, q1, q2⟩
  · have tok1 : True := trivial
    have tok2 : True := trivial
    go_enter Try.func60, Try.ntmps60
    go_wp2_with (first
      | (go_at_call 55; refine (HC.out _).mono ?_; rintro e w1 ⟨⟨q, rfl, hq⟩, hb⟩; have hb1 := bel_on (Below.refl _ _) HSZ.out hb; obtain ⟨z0, z1, z2, z3, z4, z5⟩ := HBX.out w1 hb1; have hz1 := World.block_lt_of_cell? _ _ z0; simp only at hz1; rcases Decidable.em (q = 0) with rfl | hq0)
      | (go_at_call 62; have _t := tok1; refine (varint_i _ _ (hu64 _)).mono ?_; clear tok1 _t; rintro e w2 ⟨a2, n2, c2, rfl, hn2, hR2, hb2⟩; have hR1 := (BR.one w1 (w.heap.size + 1) _ (by decide) (by decide) (Nat.le_trans HSZ.out hb1.size)).below hb2; have hb12 := bel_on (hb1.alloc (Nat.le_trans HSZ.out hb1.size) _) HSZ.out hb2; clear z0 z1 z2 z3 z4 z5 hb2 hz1)
      | (at_builtin; have _t := tok2; refine wpList_app_bytes (by rfl) _ _ rfl _ _ _ _ _ rfl hR1 hb12 (Nat.le_trans HSZ.out hb12.size) _ _ _ rfl hR2 (by omega) ?_; clear tok2 _t; intro a3 c3 w3 hR3 hb3; obtain ⟨z0, z1, z2, z3, z4, z5⟩ := HBX.out w3 hb3)
      | (go_at_call 63; refine (zig_l _ _).mono ?_; rintro e w4 ⟨⟨zq, hzq, rfl⟩, hw⟩; subst hw)
      | (go_at_call 62; refine (varint_i _ _ (by omega)).mono ?_; rintro e w5 ⟨a5, n5, c5, rfl, hn5, hR5, hb5⟩; have hR4 := hR3.below hb5; have hb45 := bel_on hb3 HSZ.out hb5; clear z0 z1 z2 z3 z4 z5 hb5)
      | (at_builtin; refine wpList_app_bytes (by rfl) _ _ rfl _ _ _ _ _ rfl hR4 hb45 (Nat.le_trans HSZ.out hb45.size) _ _ _ rfl hR5 (by omega) ?_; intro a6 c6 w6 hR6 hb6; obtain ⟨z0, z1, z2, z3, z4, z5⟩ := HBX.out w6 hb6; clear hR1 hR2 hR3 hR4 hR5 hb12 hb3 hb45))
    · go_ret2
      obtain ⟨q1, q2⟩ := HEND.out w1 none 0 0 (BR.nil _ _) hb1
      exact ⟨_, _, _, _, rfl, by omega, q1, q2⟩
    · have hk2 : k.size ≤ 2000 := (hq (by trivial)).1
      have hv2 : v.size ≤ 2000 := (hq (by trivial)).2
      have hS6 := (HBX.out w6.drew (bel_drew hb6)).2.1
      go_region_held3 (fun y : World => y.cell? ⟨w.heap.size, 1, none⟩ = some (.string k)) (first | exact hS9 | exact hS8 | exact hS7 | exact hS6) ((first
        | (go_at_call 62; refine (varint_i _ _ (by first | exact hu64 _ | omega)).mono ?_; rintro e w7 ⟨a7, n7, c7, rfl, hn7, hR7, hb7⟩; have hR7' := (BR.drew hR6).below hb7; have hb7' := bel_on (bel_drew hb6) HSZ.out hb7; have hS7 := (HBX.out w7 hb7').2.1)
        | (refine wp_app_bytes _ _ rfl _ _ _ _ _ rfl hR7' hb7' (Nat.le_trans HSZ.out hb7'.size) _ _ _ rfl hR7 (by omega) ?_; intro a8 c8 w8 hR8 hb8; have hS8 := (HBX.out w8 hb8).2.1)
        | (refine wp_app_text _ _ rfl _ _ _ _ _ rfl hR8 hb8 (Nat.le_trans HSZ.out hb8.size) _ rfl (by omega) ?_; intro a9 c9 w9 hR9 hb9; have hS9 := (HBX.out w9 hb9).2.1)))
      obtain ⟨z0, z1, z2, z3, z4, z5⟩ := HBX.out w9 hb9
      clear hS6 hS7 hS8 hS9 hR7 hR7' hb7' hR8 hb8 hR6 hb6
      go_wp2
      go_ret2
      obtain ⟨q1, q2⟩ := HEND.out _ _ _ _ hR9 hb9
      exact ⟨_, _, _, _, rfl, by omega, q1, q2⟩
    all_goals
      go_ret2
      obtain ⟨q1, q2⟩ := HEND.out w1 none 0 0 (BR.nil _ _) hb1
      exact ⟨_, _, _, _, rfl, by omega, q1, q2⟩
  · have tok1 : True := trivial
    have tok2 : True := trivial
    go_enter Try.func60, Try.ntmps60
    go_wp2_with (first
      | (go_at_call 55; refine (HC.out _).mono ?_; rintro e w1 ⟨⟨q, rfl, hq⟩, hb⟩; have hb1 := bel_on (Below.refl _ _) HSZ.out hb; obtain ⟨z0, z1, z2, z3, z4, z5⟩ := HBX.out w1 hb1; have hz1 := World.block_lt_of_cell? _ _ z0; simp only at hz1; rcases Decidable.em (q = 0) with rfl | hq0)
      | (go_at_call 62; have _t := tok1; refine (varint_i _ _ (hu64 _)).mono ?_; clear tok1 _t; rintro e w2 ⟨a2, n2, c2, rfl, hn2, hR2, hb2⟩; have hR1 := (BR.one w1 (w.heap.size + 1) _ (by decide) (by decide) (Nat.le_trans HSZ.out hb1.size)).below hb2; have hb12 := bel_on (hb1.alloc (Nat.le_trans HSZ.out hb1.size) _) HSZ.out hb2; clear z0 z1 z2 z3 z4 z5 hb2 hz1)
      | (at_builtin; have _t := tok2; refine wpList_app_bytes (by rfl) _ _ rfl _ _ _ _ _ rfl hR1 hb12 (Nat.le_trans HSZ.out hb12.size) _ _ _ rfl hR2 (by omega) ?_; clear tok2 _t; intro a3 c3 w3 hR3 hb3; obtain ⟨z0, z1, z2, z3, z4, z5⟩ := HBX.out w3 hb3)
      | (go_at_call 63; refine (zig_l _ _).mono ?_; rintro e w4 ⟨⟨zq, hzq, rfl⟩, hw⟩; subst hw)
      | (go_at_call 62; refine (varint_i _ _ (by omega)).mono ?_; rintro e w5 ⟨a5, n5, c5, rfl, hn5, hR5, hb5⟩; have hR4 := hR3.below hb5; have hb45 := bel_on hb3 HSZ.out hb5; clear z0 z1 z2 z3 z4 z5 hb5)
      | (at_builtin; refine wpList_app_bytes (by rfl) _ _ rfl _ _ _ _ _ rfl hR4 hb45 (Nat.le_trans HSZ.out hb45.size) _ _ _ rfl hR5 (by omega) ?_; intro a6 c6 w6 hR6 hb6; obtain ⟨z0, z1, z2, z3, z4, z5⟩ := HBX.out w6 hb6; clear hR1 hR2 hR3 hR4 hR5 hb12 hb3 hb45))
    · go_ret2
      obtain ⟨q1, q2⟩ := HEND.out w1 none 0 0 (BR.nil _ _) hb1
      exact ⟨_, _, _, _, rfl, by omega, q1, q2⟩
    · have hk2 : k.size ≤ 2000 := (hq (by trivial)).1
      have hv2 : v.size ≤ 2000 := (hq (by trivial)).2
      have hS6 := (HBX.out w6.drew (bel_drew hb6)).2.1
      go_region_held3 (fun y : World => y.cell? ⟨w.heap.size, 1, none⟩ = some (.string k)) (first | exact hS9 | exact hS8 | exact hS7 | exact hS6) ((first
        | (go_at_call 62; refine (varint_i _ _ (by first | exact hu64 _ | omega)).mono ?_; rintro e w7 ⟨a7, n7, c7, rfl, hn7, hR7, hb7⟩; have hR7' := (BR.drew hR6).below hb7; have hb7' := bel_on (bel_drew hb6) HSZ.out hb7; have hS7 := (HBX.out w7 hb7').2.1)
        | (refine wp_app_bytes _ _ rfl _ _ _ _ _ rfl hR7' hb7' (Nat.le_trans HSZ.out hb7'.size) _ _ _ rfl hR7 (by omega) ?_; intro a8 c8 w8 hR8 hb8; have hS8 := (HBX.out w8 hb8).2.1)
        | (refine wp_app_text _ _ rfl _ _ _ _ _ rfl hR8 hb8 (Nat.le_trans HSZ.out hb8.size) _ rfl (by omega) ?_; intro a9 c9 w9 hR9 hb9; have hS9 := (HBX.out w9 hb9).2.1)))
      obtain ⟨z0, z1, z2, z3, z4, z5⟩ := HBX.out w9 hb9
      clear hS6 hS7 hS8 hS9 hR7 hR7' hb7' hR8 hb8 hR6 hb6
      go_wp2
      have hS9 := (HBX.out w9.drew (bel_drew hb9)).2.2.2.1
      go_region_held3 (fun y : World => y.cell? ⟨w.heap.size, 3, none⟩ = some (.string v)) (first | exact hS12 | exact hS11 | exact hS10 | exact hS9) ((first
        | (go_at_call 62; refine (varint_i _ _ (by first | exact hu64 _ | omega)).mono ?_; rintro e w10 ⟨a10, n10, c10, rfl, hn10, hR10, hb10⟩; have hR10' := (BR.drew hR9).below hb10; have hb10' := bel_on (bel_drew hb9) HSZ.out hb10; have hS10 := (HBX.out w10 hb10').2.2.2.1)
        | (refine wp_app_bytes _ _ rfl _ _ _ _ _ rfl hR10' hb10' (Nat.le_trans HSZ.out hb10'.size) _ _ _ rfl hR10 (by omega) ?_; intro a11 c11 w11 hR11 hb11; have hS11 := (HBX.out w11 hb11).2.2.2.1)
        | (refine wp_app_text _ _ rfl _ _ _ _ _ rfl hR11 hb11 (Nat.le_trans HSZ.out hb11.size) _ rfl (by omega) ?_; intro a12 c12 w12 hR12 hb12; have hS12 := (HBX.out w12 hb12).2.2.2.1)))
      obtain ⟨z0, z1, z2, z3, z4, z5⟩ := HBX.out w12 hb12
      clear hS9 hS10 hS11 hS12 hR10 hR10' hb10' hR11 hb11 hR9 hb9
      go_wp2
      go_ret2
      obtain ⟨q1, q2⟩ := HEND.out _ _ _ _ hR12 hb12
      exact ⟨_, _, _, _, rfl, by omega, q1, q2⟩
    all_goals
      go_ret2
      obtain ⟨q1, q2⟩ := HEND.out w1 none 0 0 (BR.nil _ _) hb1
      exact ⟨_, _, _, _, rfl, by omega, q1, q2⟩
end Go.Proofs.Ytnnljdnaipjoiaa
