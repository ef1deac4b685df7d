/- The document's own Decode. -/
import Derived.Test.YtgpeldmplkijlaaDoorTx
namespace Go.Proofs.YtgpeldmplkijlaaDoor
set_option linter.unusedSimpArgs false
set_option linter.unusedVariables false
open Go.RowKit
theorem two_box {u y : World} (hb : Below ((u.alloc (.cells rz.cells 58)).alloc (.cells rz.cells 58)).heap.size ((u.alloc (.cells rz.cells 58)).alloc (.cells rz.cells 58)) y) :
    y.heap[u.heap.size]? = some (.cells rz.cells 58 (0, 0)) ∧ y.heap[u.heap.size + 1]? = some (.cells rz.cells 58 (0, 0)) ∧ Below u.heap.size u y := by
  have h1 : (u.alloc (.cells rz.cells 58)).heap[u.heap.size]? = some (.cells rz.cells 58 (0, 0)) := heap_alloc_new u _
  have h2 : ((u.alloc (.cells rz.cells 58)).alloc (.cells rz.cells 58)).heap[(u.alloc (.cells rz.cells 58)).heap.size]? = some (.cells rz.cells 58 (0, 0)) := heap_alloc_new _ _
  have h3 := (below_box (w := u.alloc (.cells rz.cells 58)) (.cells rz.cells 58)).block u.heap.size (by simp)
  rw [World.size_alloc] at h2
  have hB : Below u.heap.size u ((u.alloc (.cells rz.cells 58)).alloc (.cells rz.cells 58)) := (below_box _).trans ((below_box _).mono (by simp))
  exact ⟨by rw [hb.block _ (by simp; omega), h3]; exact h1, by rw [hb.block _ (by simp)]; exact h2, hB.trans (hb.mono (by simp; omega))⟩
set_option maxRecDepth 100000 in
set_option maxHeartbeats 1000000 in
theorem rdec_0a (b off : Nat) (first : Int) (u : World) (c : Nat) (hc0 : u.cell? ⟨b, off, none⟩ = some (.int .u8 (c : Int))) (h3 : c ≤ 3) (f0 : 0 ≤ first) (f1 : first ≤ 1125899906842624) (V0 : Nat) (HU0 : Hid (Calls Tryd.prog 56 #[.slice (some ⟨b, off, none⟩) 0 0] ((u.alloc (.cells #[.bool false, .string ⟨#[]⟩, .bool false, .string ⟨#[]⟩, .int .i64 0, .int .i64 0] 58)).alloc (.cells #[.bool false, .string ⟨#[]⟩, .bool false, .string ⟨#[]⟩, .int .i64 0, .int .i64 0] 58)) fun e w' => e = .returned (.tuple #[.int .u64 (V0 : Int), .int .i64 0]) ∧ w' = ((u.alloc (.cells #[.bool false, .string ⟨#[]⟩, .bool false, .string ⟨#[]⟩, .int .i64 0, .int .i64 0] 58)).alloc (.cells #[.bool false, .string ⟨#[]⟩, .bool false, .string ⟨#[]⟩, .int .i64 0, .int .i64 0] 58)))) :
    Calls Tryd.prog 41 #[.slice (some ⟨b, off, none⟩) 1 1, .int .i64 first] u fun e w' => e = .returned (.tuple #[.agg rz.cells, .int .i64 0, .int .i64 10]) ∧ Below u.heap.size u w' := by
  have h0 : True := trivial
  have hbw : b < u.heap.size := World.block_lt_of_cell? _ _ hc0
  have h3I : ¬ (3 : Int) < (c : Int) := by omega
  have g0I : ¬ first < 0 := by omega
  have g1I : ¬ 1125899906842624 < first := by omega
  have tok1 : True := trivial
  go_enter Tryd.func41, Tryd.ntmps41
  go_wp2_with (first
    | (go_at_call 56; have _t := tok1; refine Calls.mono HU0.out ?_; clear tok1 _t; rintro e w1 ⟨rfl, hw⟩; subst w1)
    | (have _t := h0; refine wpList_load_row rfl 58 _ rfl (u.heap.size + 1) rfl 58 rz.cells (0, 0) _ (two_box (Below.refl _ _)).2.1 Tryd.underlying58 rfl Tryd.info58 ?_)
    | (have _t := h0; refine wpList_store_row rfl 58 _ _ rfl u.heap.size rz.cells rfl rfl 58 rz.cells (two_box (Below.refl _ _)).1 Tryd.info58 rfl (rc_one _) ?_))
  refine bodyPost_ret (v := .tuple #[.agg rz.cells, .int .i64 0, .int .i64 10]) ?_ rfl ⟨rfl, ?_⟩
  · exact results_rec (p := 4) (u := 5) (u2 := 6) (by rfl) _ _ u.heap.size rz _ _ (by rfl) (by rfl) (by rfl) (setRow_heap _ _ _ _ _ _ (two_box (Below.refl _ _)).1)
  · exact below_setRow (two_box (Below.refl _ _)).2.2 (Nat.le_refl _) _
set_option maxRecDepth 100000 in
set_option maxHeartbeats 1000000 in
theorem rdec_0b (b off cap len : Nat) (first : Int) (u : World) (c : Nat) (hc0 : u.cell? ⟨b, off, none⟩ = some (.int .u8 (c : Int))) (h0 : 0 < len) (hl : len ≤ 6000) (hlc : len ≤ cap) (hcm : cap ≤ 9223372036854775807) (h3 : c ≤ 3) (f0 : 0 ≤ first) (f1 : first ≤ 1125899906842624) (hc1 : ¬ cap = 1) (V0 : Nat) (HU0 : Hid (Calls Tryd.prog 56 #[.slice (some ⟨b, off + 1, none⟩) (len - 1) (cap - 1)] ((u.alloc (.cells #[.bool false, .string ⟨#[]⟩, .bool false, .string ⟨#[]⟩, .int .i64 0, .int .i64 0] 58)).alloc (.cells #[.bool false, .string ⟨#[]⟩, .bool false, .string ⟨#[]⟩, .int .i64 0, .int .i64 0] 58)) fun e w' => e = .returned (.tuple #[.int .u64 (V0 : Int), .int .i64 0]) ∧ w' = ((u.alloc (.cells #[.bool false, .string ⟨#[]⟩, .bool false, .string ⟨#[]⟩, .int .i64 0, .int .i64 0] 58)).alloc (.cells #[.bool false, .string ⟨#[]⟩, .bool false, .string ⟨#[]⟩, .int .i64 0, .int .i64 0] 58)))) :
    Calls Tryd.prog 41 #[.slice (some ⟨b, off, none⟩) len cap, .int .i64 first] u fun e w' => e = .returned (.tuple #[.agg rz.cells, .int .i64 0, .int .i64 10]) ∧ Below u.heap.size u w' := by
  have hbw : b < u.heap.size := World.block_lt_of_cell? _ _ hc0
  have h0I : ((len : Int) == 0) = false := by rw [beq_eq_false_iff_ne]; omega
  have h0J : (0 : Int) < (len : Int) := by omega
  have h3I : ¬ (3 : Int) < (c : Int) := by omega
  have g0I : ¬ first < 0 := by omega
  have g1I : ¬ 1125899906842624 < first := by omega
  have hlI : (len : Int) ≤ 6000 := by omega
  have hlcI : (len : Int) ≤ (cap : Int) := by omega
  have tok1 : True := trivial
  go_enter Tryd.func41, Tryd.ntmps41
  go_wp2_with (first
    | (go_at_call 56; have _t := tok1; refine Calls.mono HU0.out ?_; clear tok1 _t; rintro e w1 ⟨rfl, hw⟩; subst w1)
    | (have _t := h0; refine wpList_load_row rfl 58 _ rfl (u.heap.size + 1) rfl 58 rz.cells (0, 0) _ (two_box (Below.refl _ _)).2.1 Tryd.underlying58 rfl Tryd.info58 ?_)
    | (have _t := h0; refine wpList_store_row rfl 58 _ _ rfl u.heap.size rz.cells rfl rfl 58 rz.cells (two_box (Below.refl _ _)).1 Tryd.info58 rfl (rc_one _) ?_))
  refine bodyPost_ret (v := .tuple #[.agg rz.cells, .int .i64 0, .int .i64 10]) ?_ rfl ⟨rfl, ?_⟩
  · exact results_rec (p := 4) (u := 5) (u2 := 6) (by rfl) _ _ u.heap.size rz _ _ (by rfl) (by rfl) (by rfl) (setRow_heap _ _ _ _ _ _ (two_box (Below.refl _ _)).1)
  · exact below_setRow (two_box (Below.refl _ _)).2.2 (Nat.le_refl _) _
set_option maxRecDepth 100000 in
set_option maxHeartbeats 1000000 in
theorem rdec_0c (b off cap len : Nat) (first : Int) (u : World) (c : Nat) (hc0 : u.cell? ⟨b, off, none⟩ = some (.int .u8 (c : Int))) (h0 : 0 < len) (hl : len ≤ 6000) (hlc : len ≤ cap) (hcm : cap ≤ 9223372036854775807) (h3 : c ≤ 3) (f0 : 0 ≤ first) (f1 : first ≤ 1125899906842624) (hc1 : ¬ cap = 1) (V0 n0 : Nat) (hn0 : ((n0 : Int) == 0) = false) (hV : (100 : Int) ≤ (V0 : Int)) (HU0 : Hid (Calls Tryd.prog 56 #[.slice (some ⟨b, off + 1, none⟩) (len - 1) (cap - 1)] ((u.alloc (.cells #[.bool false, .string ⟨#[]⟩, .bool false, .string ⟨#[]⟩, .int .i64 0, .int .i64 0] 58)).alloc (.cells #[.bool false, .string ⟨#[]⟩, .bool false, .string ⟨#[]⟩, .int .i64 0, .int .i64 0] 58)) fun e w' => e = .returned (.tuple #[.int .u64 (V0 : Int), .int .i64 (n0 : Int)]) ∧ w' = ((u.alloc (.cells #[.bool false, .string ⟨#[]⟩, .bool false, .string ⟨#[]⟩, .int .i64 0, .int .i64 0] 58)).alloc (.cells #[.bool false, .string ⟨#[]⟩, .bool false, .string ⟨#[]⟩, .int .i64 0, .int .i64 0] 58)))) :
    Calls Tryd.prog 41 #[.slice (some ⟨b, off, none⟩) len cap, .int .i64 first] u fun e w' => e = .returned (.tuple #[.agg rz.cells, .int .i64 0, .int .i64 10]) ∧ Below u.heap.size u w' := by
  have hbw : b < u.heap.size := World.block_lt_of_cell? _ _ hc0
  have h0I : ((len : Int) == 0) = false := by rw [beq_eq_false_iff_ne]; omega
  have h0J : (0 : Int) < (len : Int) := by omega
  have h3I : ¬ (3 : Int) < (c : Int) := by omega
  have g0I : ¬ first < 0 := by omega
  have g1I : ¬ 1125899906842624 < first := by omega
  have hlI : (len : Int) ≤ 6000 := by omega
  have hlcI : (len : Int) ≤ (cap : Int) := by omega
  have tok1 : True := trivial
  go_enter Tryd.func41, Tryd.ntmps41
  go_wp2_with (first
    | (go_at_call 56; have _t := tok1; refine Calls.mono HU0.out ?_; clear tok1 _t; rintro e w1 ⟨rfl, hw⟩; subst w1)
    | (have _t := h0; refine wpList_load_row rfl 58 _ rfl (u.heap.size + 1) rfl 58 rz.cells (0, 0) _ (two_box (Below.refl _ _)).2.1 Tryd.underlying58 rfl Tryd.info58 ?_)
    | (have _t := h0; refine wpList_store_row rfl 58 _ _ rfl u.heap.size rz.cells rfl rfl 58 rz.cells (two_box (Below.refl _ _)).1 Tryd.info58 rfl (rc_one _) ?_))
  refine bodyPost_ret (v := .tuple #[.agg rz.cells, .int .i64 0, .int .i64 10]) ?_ rfl ⟨rfl, ?_⟩
  · exact results_rec (p := 4) (u := 5) (u2 := 6) (by rfl) _ _ u.heap.size rz _ _ (by rfl) (by rfl) (by rfl) (setRow_heap _ _ _ _ _ _ (two_box (Below.refl _ _)).1)
  · exact below_setRow (two_box (Below.refl _ _)).2.2 (Nat.le_refl _) _
set_option maxRecDepth 100000 in
set_option maxHeartbeats 1000000 in
theorem rdec_1a (b off len : Nat) (first : Int) (u : World) (c : Nat) (hc0 : u.cell? ⟨b, off, none⟩ = some (.int .u8 (c : Int))) (h0 : 0 < len) (hl : len ≤ 6000) (h3 : c ≤ 3) (f0 : 0 ≤ first) (f1 : first ≤ 1125899906842624) (V0 n0 : Nat) (hc1 : ¬ 1 + n0 = 1) (hn0 : ((n0 : Int) == 0) = false) (hV : ¬ (100 : Int) ≤ (V0 : Int)) (hln : len = 1 + n0) (HU0 : Hid (Calls Tryd.prog 56 #[.slice (some ⟨b, off + 1, none⟩) n0 n0] ((u.alloc (.cells #[.bool false, .string ⟨#[]⟩, .bool false, .string ⟨#[]⟩, .int .i64 0, .int .i64 0] 58)).alloc (.cells #[.bool false, .string ⟨#[]⟩, .bool false, .string ⟨#[]⟩, .int .i64 0, .int .i64 0] 58)) fun e w' => e = .returned (.tuple #[.int .u64 (V0 : Int), .int .i64 (n0 : Int)]) ∧ w' = ((u.alloc (.cells #[.bool false, .string ⟨#[]⟩, .bool false, .string ⟨#[]⟩, .int .i64 0, .int .i64 0] 58)).alloc (.cells #[.bool false, .string ⟨#[]⟩, .bool false, .string ⟨#[]⟩, .int .i64 0, .int .i64 0] 58)))) (V1 : Nat) (Z : Int) (HU1 : Hid (Calls Tryd.prog 56 #[.slice (some ⟨b, off, none⟩) 0 0] ((u.alloc (.cells #[.bool false, .string ⟨#[]⟩, .bool false, .string ⟨#[]⟩, .int .i64 0, .int .i64 0] 58)).alloc (.cells #[.bool false, .string ⟨#[]⟩, .bool false, .string ⟨#[]⟩, .int .i64 0, .int .i64 0] 58)) fun e w' => e = .returned (.tuple #[.int .u64 (V1 : Int), .int .i64 0]) ∧ w' = ((u.alloc (.cells #[.bool false, .string ⟨#[]⟩, .bool false, .string ⟨#[]⟩, .int .i64 0, .int .i64 0] 58)).alloc (.cells #[.bool false, .string ⟨#[]⟩, .bool false, .string ⟨#[]⟩, .int .i64 0, .int .i64 0] 58)))) (HZ : Hid (Calls Tryd.prog 57 #[.int .u64 (V1 : Int)] ((u.alloc (.cells #[.bool false, .string ⟨#[]⟩, .bool false, .string ⟨#[]⟩, .int .i64 0, .int .i64 0] 58)).alloc (.cells #[.bool false, .string ⟨#[]⟩, .bool false, .string ⟨#[]⟩, .int .i64 0, .int .i64 0] 58)) fun e w' => e = .returned (.int .i64 Z) ∧ w' = ((u.alloc (.cells #[.bool false, .string ⟨#[]⟩, .bool false, .string ⟨#[]⟩, .int .i64 0, .int .i64 0] 58)).alloc (.cells #[.bool false, .string ⟨#[]⟩, .bool false, .string ⟨#[]⟩, .int .i64 0, .int .i64 0] 58)))) :
    Calls Tryd.prog 41 #[.slice (some ⟨b, off, none⟩) len len, .int .i64 first] u fun e w' => e = .returned (.tuple #[.agg rz.cells, .int .i64 0, .int .i64 10]) ∧ Below u.heap.size u w' := by
  subst hln
  have hbw : b < u.heap.size := World.block_lt_of_cell? _ _ hc0
  have h0I : (((1 + n0 : Nat) : Int) == 0) = false := by rw [beq_eq_false_iff_ne]; omega
  have h0J : (0 : Int) < ((1 + n0 : Nat) : Int) := by omega
  have h3I : ¬ (3 : Int) < (c : Int) := by omega
  have g0I : ¬ first < 0 := by omega
  have g1I : ¬ 1125899906842624 < first := by omega
  have hlI : ((1 + n0 : Nat) : Int) ≤ 6000 := by omega
  have tok1 : True := trivial
  go_enter Tryd.func41, Tryd.ntmps41
  go_wp2_with (first
    | (go_at_call 56; have _t := tok1; refine Calls.mono HU0.out ?_; clear tok1 _t; rintro e w1 ⟨rfl, hw⟩; subst w1)
    | (go_at_call 56; refine Calls.mono HU1.out ?_; rintro e w1 ⟨rfl, hw⟩; subst w1)
    | (go_at_call 57; refine Calls.mono HZ.out ?_; rintro e w1 ⟨rfl, hw⟩; subst w1)
    | (have _t := h3; refine wpList_load_row rfl 58 _ rfl (u.heap.size + 1) rfl 58 rz.cells (0, 0) _ (two_box (Below.refl _ _)).2.1 Tryd.underlying58 rfl Tryd.info58 ?_)
    | (have _t := h3; refine wpList_store_row rfl 58 _ _ rfl u.heap.size rz.cells rfl rfl 58 rz.cells (two_box (Below.refl _ _)).1 Tryd.info58 rfl (rc_one _) ?_))
  refine bodyPost_ret (v := .tuple #[.agg rz.cells, .int .i64 0, .int .i64 10]) ?_ rfl ⟨rfl, ?_⟩
  · exact results_rec (p := 4) (u := 5) (u2 := 6) (by rfl) _ _ u.heap.size rz _ _ (by rfl) (by rfl) (by rfl) (setRow_heap _ _ _ _ _ _ (two_box (Below.refl _ _)).1)
  · exact below_setRow (two_box (Below.refl _ _)).2.2 (Nat.le_refl _) _
set_option maxRecDepth 100000 in
set_option maxHeartbeats 1000000 in
theorem rdec_1b (b off cap len : Nat) (first : Int) (u : World) (c : Nat) (hc0 : u.cell? ⟨b, off, none⟩ = some (.int .u8 (c : Int))) (h0 : 0 < len) (hl : len ≤ 6000) (hlc : len ≤ cap) (hcm : cap ≤ 9223372036854775807) (h3 : c ≤ 3) (f0 : 0 ≤ first) (f1 : first ≤ 1125899906842624) (hc1 : ¬ cap = 1) (V0 n0 : Nat) (hn0 : ((n0 : Int) == 0) = false) (hV : ¬ (100 : Int) ≤ (V0 : Int)) (HU0 : Hid (Calls Tryd.prog 56 #[.slice (some ⟨b, off + 1, none⟩) (len - 1) (cap - 1)] ((u.alloc (.cells #[.bool false, .string ⟨#[]⟩, .bool false, .string ⟨#[]⟩, .int .i64 0, .int .i64 0] 58)).alloc (.cells #[.bool false, .string ⟨#[]⟩, .bool false, .string ⟨#[]⟩, .int .i64 0, .int .i64 0] 58)) fun e w' => e = .returned (.tuple #[.int .u64 (V0 : Int), .int .i64 (n0 : Int)]) ∧ w' = ((u.alloc (.cells #[.bool false, .string ⟨#[]⟩, .bool false, .string ⟨#[]⟩, .int .i64 0, .int .i64 0] 58)).alloc (.cells #[.bool false, .string ⟨#[]⟩, .bool false, .string ⟨#[]⟩, .int .i64 0, .int .i64 0] 58)))) (hi : 1 + n0 ≤ len) (hc2 : ¬ cap = 1 + n0) (V1 n1 : Nat) (Z : Int) (hn1 : n1 = 0) (HU1 : Hid (Calls Tryd.prog 56 #[.slice (some ⟨b, off + (1 + n0), none⟩) (len - (1 + n0)) (cap - (1 + n0))] ((u.alloc (.cells #[.bool false, .string ⟨#[]⟩, .bool false, .string ⟨#[]⟩, .int .i64 0, .int .i64 0] 58)).alloc (.cells #[.bool false, .string ⟨#[]⟩, .bool false, .string ⟨#[]⟩, .int .i64 0, .int .i64 0] 58)) fun e w' => e = .returned (.tuple #[.int .u64 (V1 : Int), .int .i64 (n1 : Int)]) ∧ w' = ((u.alloc (.cells #[.bool false, .string ⟨#[]⟩, .bool false, .string ⟨#[]⟩, .int .i64 0, .int .i64 0] 58)).alloc (.cells #[.bool false, .string ⟨#[]⟩, .bool false, .string ⟨#[]⟩, .int .i64 0, .int .i64 0] 58)))) (HZ : Hid (Calls Tryd.prog 57 #[.int .u64 (V1 : Int)] ((u.alloc (.cells #[.bool false, .string ⟨#[]⟩, .bool false, .string ⟨#[]⟩, .int .i64 0, .int .i64 0] 58)).alloc (.cells #[.bool false, .string ⟨#[]⟩, .bool false, .string ⟨#[]⟩, .int .i64 0, .int .i64 0] 58)) fun e w' => e = .returned (.int .i64 Z) ∧ w' = ((u.alloc (.cells #[.bool false, .string ⟨#[]⟩, .bool false, .string ⟨#[]⟩, .int .i64 0, .int .i64 0] 58)).alloc (.cells #[.bool false, .string ⟨#[]⟩, .bool false, .string ⟨#[]⟩, .int .i64 0, .int .i64 0] 58)))) :
    Calls Tryd.prog 41 #[.slice (some ⟨b, off, none⟩) len cap, .int .i64 first] u fun e w' => e = .returned (.tuple #[.agg rz.cells, .int .i64 0, .int .i64 10]) ∧ Below u.heap.size u w' := by
  have hbw : b < u.heap.size := World.block_lt_of_cell? _ _ hc0
  have h0I : ((len : Int) == 0) = false := by rw [beq_eq_false_iff_ne]; omega
  have h0J : (0 : Int) < (len : Int) := by omega
  have h3I : ¬ (3 : Int) < (c : Int) := by omega
  have g0I : ¬ first < 0 := by omega
  have g1I : ¬ 1125899906842624 < first := by omega
  have hlI : (len : Int) ≤ 6000 := by omega
  have hlcI : (len : Int) ≤ (cap : Int) := by omega
  have hiI : 1 + (n0 : Int) ≤ (len : Int) := by omega
  have hicI : 1 + (n0 : Int) ≤ (cap : Int) := by omega
  subst hn1
  have tok1 : True := trivial
  go_enter Tryd.func41, Tryd.ntmps41
  go_wp2_with (first
    | (go_at_call 56; have _t := tok1; refine Calls.mono HU0.out ?_; clear tok1 _t; rintro e w1 ⟨rfl, hw⟩; subst w1)
    | (go_at_call 56; refine Calls.mono HU1.out ?_; rintro e w1 ⟨rfl, hw⟩; subst w1)
    | (go_at_call 57; refine Calls.mono HZ.out ?_; rintro e w1 ⟨rfl, hw⟩; subst w1)
    | (have _t := h0; refine wpList_load_row rfl 58 _ rfl (u.heap.size + 1) rfl 58 rz.cells (0, 0) _ (two_box (Below.refl _ _)).2.1 Tryd.underlying58 rfl Tryd.info58 ?_)
    | (have _t := h0; refine wpList_store_row rfl 58 _ _ rfl u.heap.size rz.cells rfl rfl 58 rz.cells (two_box (Below.refl _ _)).1 Tryd.info58 rfl (rc_one _) ?_))
  refine bodyPost_ret (v := .tuple #[.agg rz.cells, .int .i64 0, .int .i64 10]) ?_ rfl ⟨rfl, ?_⟩
  · exact results_rec (p := 4) (u := 5) (u2 := 6) (by rfl) _ _ u.heap.size rz _ _ (by rfl) (by rfl) (by rfl) (setRow_heap _ _ _ _ _ _ (two_box (Below.refl _ _)).1)
  · exact below_setRow (two_box (Below.refl _ _)).2.2 (Nat.le_refl _) _
set_option maxRecDepth 100000 in
set_option maxHeartbeats 1000000 in
theorem rdec_1c (b off cap len : Nat) (first : Int) (u : World) (c : Nat) (hc0 : u.cell? ⟨b, off, none⟩ = some (.int .u8 (c : Int))) (h0 : 0 < len) (hl : len ≤ 6000) (hlc : len ≤ cap) (hcm : cap ≤ 9223372036854775807) (h3 : c ≤ 3) (f0 : 0 ≤ first) (f1 : first ≤ 1125899906842624) (hc1 : ¬ cap = 1) (V0 n0 : Nat) (hn0 : ((n0 : Int) == 0) = false) (hV : ¬ (100 : Int) ≤ (V0 : Int)) (HU0 : Hid (Calls Tryd.prog 56 #[.slice (some ⟨b, off + 1, none⟩) (len - 1) (cap - 1)] ((u.alloc (.cells #[.bool false, .string ⟨#[]⟩, .bool false, .string ⟨#[]⟩, .int .i64 0, .int .i64 0] 58)).alloc (.cells #[.bool false, .string ⟨#[]⟩, .bool false, .string ⟨#[]⟩, .int .i64 0, .int .i64 0] 58)) fun e w' => e = .returned (.tuple #[.int .u64 (V0 : Int), .int .i64 (n0 : Int)]) ∧ w' = ((u.alloc (.cells #[.bool false, .string ⟨#[]⟩, .bool false, .string ⟨#[]⟩, .int .i64 0, .int .i64 0] 58)).alloc (.cells #[.bool false, .string ⟨#[]⟩, .bool false, .string ⟨#[]⟩, .int .i64 0, .int .i64 0] 58)))) (hi : 1 + n0 ≤ len) (hc2 : ¬ cap = 1 + n0) (V1 n1 : Nat) (Z : Int) (hn1 : ((n1 : Int) == 0) = false) (hd : Z < -first) (HU1 : Hid (Calls Tryd.prog 56 #[.slice (some ⟨b, off + (1 + n0), none⟩) (len - (1 + n0)) (cap - (1 + n0))] ((u.alloc (.cells #[.bool false, .string ⟨#[]⟩, .bool false, .string ⟨#[]⟩, .int .i64 0, .int .i64 0] 58)).alloc (.cells #[.bool false, .string ⟨#[]⟩, .bool false, .string ⟨#[]⟩, .int .i64 0, .int .i64 0] 58)) fun e w' => e = .returned (.tuple #[.int .u64 (V1 : Int), .int .i64 (n1 : Int)]) ∧ w' = ((u.alloc (.cells #[.bool false, .string ⟨#[]⟩, .bool false, .string ⟨#[]⟩, .int .i64 0, .int .i64 0] 58)).alloc (.cells #[.bool false, .string ⟨#[]⟩, .bool false, .string ⟨#[]⟩, .int .i64 0, .int .i64 0] 58)))) (HZ : Hid (Calls Tryd.prog 57 #[.int .u64 (V1 : Int)] ((u.alloc (.cells #[.bool false, .string ⟨#[]⟩, .bool false, .string ⟨#[]⟩, .int .i64 0, .int .i64 0] 58)).alloc (.cells #[.bool false, .string ⟨#[]⟩, .bool false, .string ⟨#[]⟩, .int .i64 0, .int .i64 0] 58)) fun e w' => e = .returned (.int .i64 Z) ∧ w' = ((u.alloc (.cells #[.bool false, .string ⟨#[]⟩, .bool false, .string ⟨#[]⟩, .int .i64 0, .int .i64 0] 58)).alloc (.cells #[.bool false, .string ⟨#[]⟩, .bool false, .string ⟨#[]⟩, .int .i64 0, .int .i64 0] 58)))) :
    Calls Tryd.prog 41 #[.slice (some ⟨b, off, none⟩) len cap, .int .i64 first] u fun e w' => e = .returned (.tuple #[.agg rz.cells, .int .i64 0, .int .i64 10]) ∧ Below u.heap.size u w' := by
  have hbw : b < u.heap.size := World.block_lt_of_cell? _ _ hc0
  have h0I : ((len : Int) == 0) = false := by rw [beq_eq_false_iff_ne]; omega
  have h0J : (0 : Int) < (len : Int) := by omega
  have h3I : ¬ (3 : Int) < (c : Int) := by omega
  have g0I : ¬ first < 0 := by omega
  have g1I : ¬ 1125899906842624 < first := by omega
  have hlI : (len : Int) ≤ 6000 := by omega
  have hlcI : (len : Int) ≤ (cap : Int) := by omega
  have hiI : 1 + (n0 : Int) ≤ (len : Int) := by omega
  have hicI : 1 + (n0 : Int) ≤ (cap : Int) := by omega
  have tok1 : True := trivial
  go_enter Tryd.func41, Tryd.ntmps41
  go_wp2_with (first
    | (go_at_call 56; have _t := tok1; refine Calls.mono HU0.out ?_; clear tok1 _t; rintro e w1 ⟨rfl, hw⟩; subst w1)
    | (go_at_call 56; refine Calls.mono HU1.out ?_; rintro e w1 ⟨rfl, hw⟩; subst w1)
    | (go_at_call 57; refine Calls.mono HZ.out ?_; rintro e w1 ⟨rfl, hw⟩; subst w1)
    | (have _t := h0; refine wpList_load_row rfl 58 _ rfl (u.heap.size + 1) rfl 58 rz.cells (0, 0) _ (two_box (Below.refl _ _)).2.1 Tryd.underlying58 rfl Tryd.info58 ?_)
    | (have _t := h0; refine wpList_store_row rfl 58 _ _ rfl u.heap.size rz.cells rfl rfl 58 rz.cells (two_box (Below.refl _ _)).1 Tryd.info58 rfl (rc_one _) ?_))
  refine bodyPost_ret (v := .tuple #[.agg rz.cells, .int .i64 0, .int .i64 10]) ?_ rfl ⟨rfl, ?_⟩
  · exact results_rec (p := 4) (u := 5) (u2 := 6) (by rfl) _ _ u.heap.size rz _ _ (by rfl) (by rfl) (by rfl) (setRow_heap _ _ _ _ _ _ (two_box (Below.refl _ _)).1)
  · exact below_setRow (two_box (Below.refl _ _)).2.2 (Nat.le_refl _) _
set_option maxRecDepth 100000 in
set_option maxHeartbeats 1000000 in
theorem rdec_1d (b off cap len : Nat) (first : Int) (u : World) (c : Nat) (hc0 : u.cell? ⟨b, off, none⟩ = some (.int .u8 (c : Int))) (h0 : 0 < len) (hl : len ≤ 6000) (hlc : len ≤ cap) (hcm : cap ≤ 9223372036854775807) (h3 : c ≤ 3) (f0 : 0 ≤ first) (f1 : first ≤ 1125899906842624) (hc1 : ¬ cap = 1) (V0 n0 : Nat) (hn0 : ((n0 : Int) == 0) = false) (hV : ¬ (100 : Int) ≤ (V0 : Int)) (HU0 : Hid (Calls Tryd.prog 56 #[.slice (some ⟨b, off + 1, none⟩) (len - 1) (cap - 1)] ((u.alloc (.cells #[.bool false, .string ⟨#[]⟩, .bool false, .string ⟨#[]⟩, .int .i64 0, .int .i64 0] 58)).alloc (.cells #[.bool false, .string ⟨#[]⟩, .bool false, .string ⟨#[]⟩, .int .i64 0, .int .i64 0] 58)) fun e w' => e = .returned (.tuple #[.int .u64 (V0 : Int), .int .i64 (n0 : Int)]) ∧ w' = ((u.alloc (.cells #[.bool false, .string ⟨#[]⟩, .bool false, .string ⟨#[]⟩, .int .i64 0, .int .i64 0] 58)).alloc (.cells #[.bool false, .string ⟨#[]⟩, .bool false, .string ⟨#[]⟩, .int .i64 0, .int .i64 0] 58)))) (hi : 1 + n0 ≤ len) (hc2 : ¬ cap = 1 + n0) (V1 n1 : Nat) (Z : Int) (hn1 : ((n1 : Int) == 0) = false) (hd0 : ¬ Z < -first) (hd : 1125899906842624 - first < Z) (HU1 : Hid (Calls Tryd.prog 56 #[.slice (some ⟨b, off + (1 + n0), none⟩) (len - (1 + n0)) (cap - (1 + n0))] ((u.alloc (.cells #[.bool false, .string ⟨#[]⟩, .bool false, .string ⟨#[]⟩, .int .i64 0, .int .i64 0] 58)).alloc (.cells #[.bool false, .string ⟨#[]⟩, .bool false, .string ⟨#[]⟩, .int .i64 0, .int .i64 0] 58)) fun e w' => e = .returned (.tuple #[.int .u64 (V1 : Int), .int .i64 (n1 : Int)]) ∧ w' = ((u.alloc (.cells #[.bool false, .string ⟨#[]⟩, .bool false, .string ⟨#[]⟩, .int .i64 0, .int .i64 0] 58)).alloc (.cells #[.bool false, .string ⟨#[]⟩, .bool false, .string ⟨#[]⟩, .int .i64 0, .int .i64 0] 58)))) (HZ : Hid (Calls Tryd.prog 57 #[.int .u64 (V1 : Int)] ((u.alloc (.cells #[.bool false, .string ⟨#[]⟩, .bool false, .string ⟨#[]⟩, .int .i64 0, .int .i64 0] 58)).alloc (.cells #[.bool false, .string ⟨#[]⟩, .bool false, .string ⟨#[]⟩, .int .i64 0, .int .i64 0] 58)) fun e w' => e = .returned (.int .i64 Z) ∧ w' = ((u.alloc (.cells #[.bool false, .string ⟨#[]⟩, .bool false, .string ⟨#[]⟩, .int .i64 0, .int .i64 0] 58)).alloc (.cells #[.bool false, .string ⟨#[]⟩, .bool false, .string ⟨#[]⟩, .int .i64 0, .int .i64 0] 58)))) :
    Calls Tryd.prog 41 #[.slice (some ⟨b, off, none⟩) len cap, .int .i64 first] u fun e w' => e = .returned (.tuple #[.agg rz.cells, .int .i64 0, .int .i64 10]) ∧ Below u.heap.size u w' := by
  have hbw : b < u.heap.size := World.block_lt_of_cell? _ _ hc0
  have h0I : ((len : Int) == 0) = false := by rw [beq_eq_false_iff_ne]; omega
  have h0J : (0 : Int) < (len : Int) := by omega
  have h3I : ¬ (3 : Int) < (c : Int) := by omega
  have g0I : ¬ first < 0 := by omega
  have g1I : ¬ 1125899906842624 < first := by omega
  have hlI : (len : Int) ≤ 6000 := by omega
  have hlcI : (len : Int) ≤ (cap : Int) := by omega
  have hiI : 1 + (n0 : Int) ≤ (len : Int) := by omega
  have hicI : 1 + (n0 : Int) ≤ (cap : Int) := by omega
  have tok1 : True := trivial
  go_enter Tryd.func41, Tryd.ntmps41
  go_wp2_with (first
    | (go_at_call 56; have _t := tok1; refine Calls.mono HU0.out ?_; clear tok1 _t; rintro e w1 ⟨rfl, hw⟩; subst w1)
    | (go_at_call 56; refine Calls.mono HU1.out ?_; rintro e w1 ⟨rfl, hw⟩; subst w1)
    | (go_at_call 57; refine Calls.mono HZ.out ?_; rintro e w1 ⟨rfl, hw⟩; subst w1)
    | (have _t := h0; refine wpList_load_row rfl 58 _ rfl (u.heap.size + 1) rfl 58 rz.cells (0, 0) _ (two_box (Below.refl _ _)).2.1 Tryd.underlying58 rfl Tryd.info58 ?_)
    | (have _t := h0; refine wpList_store_row rfl 58 _ _ rfl u.heap.size rz.cells rfl rfl 58 rz.cells (two_box (Below.refl _ _)).1 Tryd.info58 rfl (rc_one _) ?_))
  refine bodyPost_ret (v := .tuple #[.agg rz.cells, .int .i64 0, .int .i64 10]) ?_ rfl ⟨rfl, ?_⟩
  · exact results_rec (p := 4) (u := 5) (u2 := 6) (by rfl) _ _ u.heap.size rz _ _ (by rfl) (by rfl) (by rfl) (setRow_heap _ _ _ _ _ _ (two_box (Below.refl _ _)).1)
  · exact below_setRow (two_box (Below.refl _ _)).2.2 (Nat.le_refl _) _
end Go.Proofs.YtgpeldmplkijlaaDoor
