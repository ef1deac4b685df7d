/- The document's own Decode: what it reads. -/
import Derived.Test.YtgpeldmplkijlaaDoorRq
import Derived.Test.YtgpeldmplkijlaaDoorLat
namespace Go.Proofs.YtgpeldmplkijlaaDoor
set_option linter.unusedSimpArgs false
set_option linter.unusedVariables false
open Go.RowKit
theorem box_cells' {w : World} {R : Nat} {r : Rc} (h : w.heap[R]? = some (.cells r.cells 58 (0, 0))) :
    w.cell? ⟨R, 0, none⟩ = some (.bool r.hk) ∧ w.cell? ⟨R, 1, none⟩ = some (.string r.k) ∧ w.cell? ⟨R, 2, none⟩ = some (.bool r.hv) ∧ w.cell? ⟨R, 3, none⟩ = some (.string r.v) ∧ w.cell? ⟨R, 4, none⟩ = some (.int .i64 r.t) ∧ w.cell? ⟨R, 5, none⟩ = some (.int .i64 r.o) := by
  have hc : ∀ j, w.cell? ⟨R, j, none⟩ = r.cells[j]? := fun j => cell_of_row _ R j r.cells 58 (0, 0) h
  exact ⟨by rw [hc]; rfl, by rw [hc]; rfl, by rw [hc]; rfl, by rw [hc]; rfl, by rw [hc]; rfl, by rw [hc]; rfl⟩
theorem box_fr {w : World} {R : Nat} {cs : Array Value} {t : TypeId} (h : w.heap[R]? = some (.cells cs t (0, 0))) : ∀ i, w.frozen? ⟨R, i, none⟩ = false := fun i => by simp [World.frozen?, h]
theorem two_cell {u y : World} {b off : Nat} {v : Value} (hb : Below ((u.alloc (.cells rz.cells 58)).alloc (.cells rz.cells 58)).heap.size ((u.alloc (.cells rz.cells 58)).alloc (.cells rz.cells 58)) y) (h : u.cell? ⟨b, off, none⟩ = some v) : y.cell? ⟨b, off, none⟩ = some v :=
  ((two_box hb).2.2.cell (p := ⟨b, off, none⟩) (World.block_lt_of_cell? _ _ h)).trans h
theorem three_box (u : World) : ((((u.alloc (.cells rz.cells 58)).alloc (.cells rz.cells 58)).alloc (.cells rz.cells 58)).drew).heap[u.heap.size + 1 + 1]? = some (.cells rz.cells 58 (0, 0)) := by
  have h := heap_alloc_new ((u.alloc (.cells rz.cells 58)).alloc (.cells rz.cells 58)) (.cells rz.cells 58)
  rw [World.size_alloc, World.size_alloc] at h
  exact h
set_option maxRecDepth 100000 in
set_option maxHeartbeats 2000000 in
theorem rdec_ff (b off cap len : Nat) (first : Int) (u : World) (c : Nat) (hc0 : u.cell? ⟨b, off, none⟩ = some (.int .u8 (c : Int))) (h0 : 0 < len) (hl : len ≤ 6000) (hlc : len ≤ cap) (hcm : cap ≤ 9223372036854775807) (h3 : c ≤ 3) (f0 : 0 ≤ first) (f1 : first ≤ 1125899906842624) (hc1 : ¬ cap = 1) (V0 n0 : Nat) (hn0 : ((n0 : Int) == 0) = false) (hV : ¬ (100 : Int) ≤ (V0 : Int)) (HU0 : Hid (Calls Tryd.prog 56 #[.slice (some ⟨b, off + 1, none⟩) (len - 1) (cap - 1)] ((u.alloc (.cells #[.bool false, .string ⟨#[]⟩, .bool false, .string ⟨#[]⟩, .int .i64 0, .int .i64 0] 58)).alloc (.cells #[.bool false, .string ⟨#[]⟩, .bool false, .string ⟨#[]⟩, .int .i64 0, .int .i64 0] 58)) fun e w' => e = .returned (.tuple #[.int .u64 (V0 : Int), .int .i64 (n0 : Int)]) ∧ w' = ((u.alloc (.cells #[.bool false, .string ⟨#[]⟩, .bool false, .string ⟨#[]⟩, .int .i64 0, .int .i64 0] 58)).alloc (.cells #[.bool false, .string ⟨#[]⟩, .bool false, .string ⟨#[]⟩, .int .i64 0, .int .i64 0] 58)))) (hi : 1 + n0 ≤ len) (hc2 : ¬ cap = 1 + n0) (V1 n1 : Nat) (Z : Int) (hn1 : ((n1 : Int) == 0) = false) (hd0 : ¬ Z < -first) (hd : ¬ 1125899906842624 - first < Z) (HU1 : Hid (Calls Tryd.prog 56 #[.slice (some ⟨b, off + (1 + n0), none⟩) (len - (1 + n0)) (cap - (1 + n0))] ((u.alloc (.cells #[.bool false, .string ⟨#[]⟩, .bool false, .string ⟨#[]⟩, .int .i64 0, .int .i64 0] 58)).alloc (.cells #[.bool false, .string ⟨#[]⟩, .bool false, .string ⟨#[]⟩, .int .i64 0, .int .i64 0] 58)) fun e w' => e = .returned (.tuple #[.int .u64 (V1 : Int), .int .i64 (n1 : Int)]) ∧ w' = ((u.alloc (.cells #[.bool false, .string ⟨#[]⟩, .bool false, .string ⟨#[]⟩, .int .i64 0, .int .i64 0] 58)).alloc (.cells #[.bool false, .string ⟨#[]⟩, .bool false, .string ⟨#[]⟩, .int .i64 0, .int .i64 0] 58)))) (HZ : Hid (Calls Tryd.prog 57 #[.int .u64 (V1 : Int)] ((u.alloc (.cells #[.bool false, .string ⟨#[]⟩, .bool false, .string ⟨#[]⟩, .int .i64 0, .int .i64 0] 58)).alloc (.cells #[.bool false, .string ⟨#[]⟩, .bool false, .string ⟨#[]⟩, .int .i64 0, .int .i64 0] 58)) fun e w' => e = .returned (.int .i64 Z) ∧ w' = ((u.alloc (.cells #[.bool false, .string ⟨#[]⟩, .bool false, .string ⟨#[]⟩, .int .i64 0, .int .i64 0] 58)).alloc (.cells #[.bool false, .string ⟨#[]⟩, .bool false, .string ⟨#[]⟩, .int .i64 0, .int .i64 0] 58)))) (hi2 : 1 + n0 + n1 ≤ len) (l : List Nat) (hlen : l.length = len) (hr : Row u (some ⟨b, off, none⟩) l) (hw0 : IntKind.i64.wrap (V0 : Int) = (V0 : Int)) (hwT : IntKind.i64.wrap (first + Z) = first + Z) (hk0 : (bits .and .u8 (c : Int) 1 == 1) = false) (hv0 : (bits .and .u8 (c : Int) 2 == 2) = false) :
    Calls Tryd.prog 41 #[.slice (some ⟨b, off, none⟩) len cap, .int .i64 first] u fun e w' => e = .returned (.tuple #[.agg (Rc.cells ⟨false, ⟨#[]⟩, false, ⟨#[]⟩, first + Z, (V0 : Int)⟩), .int .i64 (1 + (n0 : Int) + (n1 : Int)), .int .i64 0]) ∧ Below u.heap.size u w' := by
  have hbw : b < u.heap.size := World.block_lt_of_cell? _ _ hc0
  have h0I : ((len : Int) == 0) = false := by rw [beq_eq_false_iff_ne]; omega
  have h0J : (0 : Int) < (len : Int) := by omega
  have h3I : ¬ (3 : Int) < (c : Int) := by omega
  have g0I : ¬ first < 0 := by omega
  have g1I : ¬ 1125899906842624 < first := by omega
  have hlI : (len : Int) ≤ 6000 := by omega
  have hlcI : (len : Int) ≤ (cap : Int) := by omega
  have hiI : 1 + (n0 : Int) ≤ (len : Int) := by omega
  have hicI : 1 + (n0 : Int) ≤ (cap : Int) := by omega
  have hi2I : 1 + (n0 : Int) + (n1 : Int) ≤ (len : Int) := by omega
  have hk1 : (bits .and .u8 (c : Int) 1 == 1) = false := hk0
  have hv1 : (bits .and .u8 (c : Int) 2 == 2) = false := hv0
  have tok1 : True := trivial
  go_enter Tryd.func41, Tryd.ntmps41
  go_wp2_with (first
    | (go_at_call 56; have _t := tok1; refine Calls.mono HU0.out ?_; clear tok1 _t; rintro e w1 ⟨rfl, hw⟩; subst w1)
    | (go_at_call 56; refine Calls.mono HU1.out ?_; rintro e w1 ⟨rfl, hw⟩; subst w1)
    | (go_at_call 57; refine Calls.mono HZ.out ?_; rintro e w1 ⟨rfl, hw⟩; subst w1))
  clear HU0 HU1 HZ
  refine wp_region_lat (fun y => Below ((u.alloc (.cells #[.bool false, .string ⟨#[]⟩, .bool false, .string ⟨#[]⟩, .int .i64 0, .int .i64 0] 58)).alloc (.cells #[.bool false, .string ⟨#[]⟩, .bool false, .string ⟨#[]⟩, .int .i64 0, .int .i64 0] 58)).heap.size ((u.alloc (.cells #[.bool false, .string ⟨#[]⟩, .bool false, .string ⟨#[]⟩, .int .i64 0, .int .i64 0] 58)).alloc (.cells #[.bool false, .string ⟨#[]⟩, .bool false, .string ⟨#[]⟩, .int .i64 0, .int .i64 0] 58)) y) 17 (by kernel_rfl) ((Below.refl _ _).drew) (fun hHeld => ?_)
  refine lat_take 0 (v := ?_) rfl (by kernel_rfl) (by kernel_rfl) (by kernel_rfl) (by kernel_rfl) (fun _ _ _ h => h) (by rfl) ?_ (by assumption) ?_
  rotate_left
  · (intro w hSw; obtain zc := two_cell hSw hc0; go_simp <;> with_reducible rfl)
  try simp only [Act.put, List.setIfInBounds_toArray, List.set_cons_zero, List.set_cons_succ]
  refine lat_take 1 (v := ?_) rfl (by kernel_rfl) (by kernel_rfl) (by kernel_rfl) (by kernel_rfl) (fun _ _ _ h => h) (by rfl) ?_ (by assumption) ?_
  rotate_left
  · (intro w hSw; obtain zc := two_cell hSw hc0; go_simp <;> with_reducible rfl)
  try simp only [Act.put, List.setIfInBounds_toArray, List.set_cons_zero, List.set_cons_succ]
  refine lat_take 2 (v := ?_) rfl (by kernel_rfl) (by kernel_rfl) (by kernel_rfl) (by kernel_rfl) (fun _ _ _ h => h) (by rfl) ?_ (by assumption) ?_
  rotate_left
  · (intro w hSw; obtain zc := two_cell hSw hc0; go_simp <;> with_reducible rfl)
  try simp only [Act.put, List.setIfInBounds_toArray, List.set_cons_zero, List.set_cons_succ]
  refine lat_take 3 (v := ?_) rfl (by kernel_rfl) (by kernel_rfl) (by kernel_rfl) (by kernel_rfl) (fun _ _ _ h => h) (by rfl) ?_ (by assumption) ?_
  rotate_left
  · (intro w hSw; obtain zc := two_cell hSw hc0; go_simp <;> with_reducible rfl)
  try simp only [Act.put, List.setIfInBounds_toArray, List.set_cons_zero, List.set_cons_succ]
  refine lat_take 4 (v := ?_) rfl (by kernel_rfl) (by kernel_rfl) (by kernel_rfl) (by kernel_rfl) (fun _ _ _ h => h) (by rfl) ?_ (by assumption) ?_
  rotate_left
  · (intro w hSw; obtain zc := two_cell hSw hc0; go_simp <;> with_reducible rfl)
  try simp only [Act.put, List.setIfInBounds_toArray, List.set_cons_zero, List.set_cons_succ]
  refine lat_take 5 (v := ?_) rfl (by kernel_rfl) (by kernel_rfl) (by kernel_rfl) (by kernel_rfl) (fun _ _ _ h => h) (by rfl) ?_ (by assumption) ?_
  rotate_left
  · (intro w hSw; obtain zc := two_cell hSw hc0; go_simp <;> with_reducible rfl)
  try simp only [Act.put, List.setIfInBounds_toArray, List.set_cons_zero, List.set_cons_succ]
  refine lat_take 6 (v := ?_) rfl (by kernel_rfl) (by kernel_rfl) (by kernel_rfl) (by kernel_rfl) (fun _ _ _ h => h) (by rfl) ?_ (by assumption) ?_
  rotate_left
  · (intro w hSw; obtain zc := two_cell hSw hc0; go_simp <;> with_reducible rfl)
  try simp only [Act.put, List.setIfInBounds_toArray, List.set_cons_zero, List.set_cons_succ]
  refine lat_take 7 (v := ?_) rfl (by kernel_rfl) (by kernel_rfl) (by kernel_rfl) (by kernel_rfl) (fun _ _ _ h => h) (by rfl) ?_ (by assumption) ?_
  rotate_left
  · (intro w hSw; obtain zc := two_cell hSw hc0; go_simp <;> with_reducible rfl)
  try simp only [Act.put, List.setIfInBounds_toArray, List.set_cons_zero, List.set_cons_succ]
  refine lat_take 8 (v := ?_) rfl (by kernel_rfl) (by kernel_rfl) (by kernel_rfl) (by kernel_rfl) (fun _ _ _ h => h) (by rfl) ?_ (by assumption) ?_
  rotate_left
  · (intro w hSw; obtain zc := two_cell hSw hc0; go_simp <;> with_reducible rfl)
  try simp only [Act.put, List.setIfInBounds_toArray, List.set_cons_zero, List.set_cons_succ]
  refine lat_take 9 (v := ?_) rfl (by kernel_rfl) (by kernel_rfl) (by kernel_rfl) (by kernel_rfl) (fun _ _ _ h => h) (by rfl) ?_ (by assumption) ?_
  rotate_left
  · (intro w hSw; obtain zc := two_cell hSw hc0; go_simp <;> with_reducible rfl)
  try simp only [Act.put, List.setIfInBounds_toArray, List.set_cons_zero, List.set_cons_succ]
  refine lat_take 10 (v := ?_) rfl (by kernel_rfl) (by kernel_rfl) (by kernel_rfl) (by kernel_rfl) (fun _ _ _ h => h) (by rfl) ?_ (by assumption) ?_
  rotate_left
  · (intro w hSw; obtain zc := two_cell hSw hc0; go_simp <;> with_reducible rfl)
  try simp only [Act.put, List.setIfInBounds_toArray, List.set_cons_zero, List.set_cons_succ]
  refine lat_take 11 (v := ?_) rfl (by kernel_rfl) (by kernel_rfl) (by kernel_rfl) (by kernel_rfl) (fun _ _ _ h => h) (by rfl) ?_ (by assumption) ?_
  rotate_left
  · (intro w hSw; obtain zc := two_cell hSw hc0; go_simp <;> with_reducible rfl)
  try simp only [Act.put, List.setIfInBounds_toArray, List.set_cons_zero, List.set_cons_succ]
  refine lat_take 12 (v := ?_) rfl (by kernel_rfl) (by kernel_rfl) (by kernel_rfl) (by kernel_rfl) (fun _ _ _ h => h) (by rfl) ?_ (by assumption) ?_
  rotate_left
  · (intro w hSw; obtain zc := two_cell hSw hc0; go_simp <;> with_reducible rfl)
  try simp only [Act.put, List.setIfInBounds_toArray, List.set_cons_zero, List.set_cons_succ]
  refine lat_take 13 (v := ?_) rfl (by kernel_rfl) (by kernel_rfl) (by kernel_rfl) (by kernel_rfl) (fun _ _ _ h => h) (by rfl) ?_ (by assumption) ?_
  rotate_left
  · (intro w hSw; obtain zc := two_cell hSw hc0; go_simp <;> with_reducible rfl)
  try simp only [Act.put, List.setIfInBounds_toArray, List.set_cons_zero, List.set_cons_succ]
  refine lat_take 14 (v := ?_) rfl (by kernel_rfl) (by kernel_rfl) (by kernel_rfl) (by kernel_rfl) (fun _ _ _ h => h) (by rfl) ?_ (by assumption) ?_
  rotate_left
  · (intro w hSw; obtain zc := two_cell hSw hc0; go_simp <;> with_reducible rfl)
  try simp only [Act.put, List.setIfInBounds_toArray, List.set_cons_zero, List.set_cons_succ]
  refine lat_take 15 (v := ?_) rfl (by kernel_rfl) (by kernel_rfl) (by kernel_rfl) (by kernel_rfl) (fun _ _ _ h => h) (by rfl) ?_ (by assumption) ?_
  rotate_left
  · (intro w hSw; obtain zc := two_cell hSw hc0; go_simp <;> with_reducible rfl)
  try simp only [Act.put, List.setIfInBounds_toArray, List.set_cons_zero, List.set_cons_succ]
  refine lat_one 16 rfl (by kernel_rfl) (by decide) (by rfl) (fun K hK => ?_)
  go_simp
  refine hK.out _ _ ?_ (fun hH2 => ?_)
  · first
      | exact ((Below.refl _ _).drew).alloc (Nat.le_refl _) _
      | exact ((Below.refl _ _).alloc (Nat.le_refl _) _).drew
  clear hK hHeld
  try simp only [Act.put, List.setIfInBounds_toArray, List.set_cons_zero, List.set_cons_succ]
  refine lat_last 17 rfl (by kernel_rfl) (by decide) (by kernel_rfl) (by rfl) (fun K hK => ?_)
  refine wp_store_row 58 _ _ rfl (u.heap.size + 1 + 1) (Rc.cells ⟨false, ⟨#[]⟩, false, ⟨#[]⟩, first + Z, (V0 : Int)⟩) rfl rfl 58 rz.cells (three_box u) Tryd.info58 rfl (rc_one _) ?_
  refine hK.out _ _ ?_
  clear hK
  try simp only [Act.put, List.setIfInBounds_toArray, List.set_cons_zero, List.set_cons_succ]
  generalize hw3 : World.setRow _ _ _ = w3
  have hbx : w3.heap[u.heap.size + 1 + 1]? = some (.cells (Rc.cells ⟨false, ⟨#[]⟩, false, ⟨#[]⟩, first + Z, (V0 : Int)⟩) 58 (0, 0)) := by rw [← hw3]; exact setRow_heap _ _ _ _ _ _ (three_box u)
  have hb3 : Below ((u.alloc (.cells #[.bool false, .string ⟨#[]⟩, .bool false, .string ⟨#[]⟩, .int .i64 0, .int .i64 0] 58)).alloc (.cells #[.bool false, .string ⟨#[]⟩, .bool false, .string ⟨#[]⟩, .int .i64 0, .int .i64 0] 58)).heap.size ((u.alloc (.cells #[.bool false, .string ⟨#[]⟩, .bool false, .string ⟨#[]⟩, .int .i64 0, .int .i64 0] 58)).alloc (.cells #[.bool false, .string ⟨#[]⟩, .bool false, .string ⟨#[]⟩, .int .i64 0, .int .i64 0] 58)) w3 := by rw [← hw3]; exact below_setRow hH2 (by simp) _
  clear hw3 hH2
  obtain ⟨e0, e1, e2, e3, e4, e5⟩ := box_cells' hbx
  simp only at e0 e1 e2 e3 e4 e5
  have ef := box_fr hbx
  have hz3 := World.block_lt_of_cell? _ _ e0
  simp only at hz3
  have HFF : Hid _ := hbx
  have HBB : Hid _ := hb3
  have Hb3x : Hid _ := hb3
  clear hbx hb3
  go_wp2_with (first
    | (have _t := h0; refine wpList_load_row rfl 58 _ rfl (u.heap.size + 1 + 1) rfl 58 (Rc.cells ⟨false, ⟨#[]⟩, false, ⟨#[]⟩, first + Z, (V0 : Int)⟩) (0, 0) _ HFF.out Tryd.underlying58 rfl Tryd.info58 ?_)
    | (have _t := h0; refine wpList_store_row rfl 58 _ _ rfl u.heap.size (Rc.cells ⟨false, ⟨#[]⟩, false, ⟨#[]⟩, first + Z, (V0 : Int)⟩) rfl rfl 58 rz.cells (two_box HBB.out).1 Tryd.info58 rfl (rc_one _) ?_))
  refine bodyPost_ret (v := .tuple #[.agg (Rc.cells ⟨false, ⟨#[]⟩, false, ⟨#[]⟩, first + Z, (V0 : Int)⟩), .int .i64 (1 + (n0 : Int) + (n1 : Int)), .int .i64 0]) ?_ rfl ⟨rfl, ?_⟩
  · exact results_rec (p := 4) (u := 5) (u2 := 6) (by rfl) _ _ u.heap.size ⟨false, ⟨#[]⟩, false, ⟨#[]⟩, first + Z, (V0 : Int)⟩ _ _ (by rfl) (by rfl) (by rfl) (setRow_heap _ _ _ _ _ _ (two_box HBB.out).1)
  · exact below_setRow (two_box HBB.out).2.2 (Nat.le_refl _) _
set_option maxRecDepth 100000 in
set_option maxHeartbeats 2000000 in
theorem rdec_tf (b off cap len : Nat) (first : Int) (u : World) (c : Nat) (hc0 : u.cell? ⟨b, off, none⟩ = some (.int .u8 (c : Int))) (h0 : 0 < len) (hl : len ≤ 6000) (hlc : len ≤ cap) (hcm : cap ≤ 9223372036854775807) (h3 : c ≤ 3) (f0 : 0 ≤ first) (f1 : first ≤ 1125899906842624) (hc1 : ¬ cap = 1) (V0 n0 : Nat) (hn0 : ((n0 : Int) == 0) = false) (hV : ¬ (100 : Int) ≤ (V0 : Int)) (HU0 : Hid (Calls Tryd.prog 56 #[.slice (some ⟨b, off + 1, none⟩) (len - 1) (cap - 1)] ((u.alloc (.cells #[.bool false, .string ⟨#[]⟩, .bool false, .string ⟨#[]⟩, .int .i64 0, .int .i64 0] 58)).alloc (.cells #[.bool false, .string ⟨#[]⟩, .bool false, .string ⟨#[]⟩, .int .i64 0, .int .i64 0] 58)) fun e w' => e = .returned (.tuple #[.int .u64 (V0 : Int), .int .i64 (n0 : Int)]) ∧ w' = ((u.alloc (.cells #[.bool false, .string ⟨#[]⟩, .bool false, .string ⟨#[]⟩, .int .i64 0, .int .i64 0] 58)).alloc (.cells #[.bool false, .string ⟨#[]⟩, .bool false, .string ⟨#[]⟩, .int .i64 0, .int .i64 0] 58)))) (hi : 1 + n0 ≤ len) (hc2 : ¬ cap = 1 + n0) (V1 n1 : Nat) (Z : Int) (hn1 : ((n1 : Int) == 0) = false) (hd0 : ¬ Z < -first) (hd : ¬ 1125899906842624 - first < Z) (HU1 : Hid (Calls Tryd.prog 56 #[.slice (some ⟨b, off + (1 + n0), none⟩) (len - (1 + n0)) (cap - (1 + n0))] ((u.alloc (.cells #[.bool false, .string ⟨#[]⟩, .bool false, .string ⟨#[]⟩, .int .i64 0, .int .i64 0] 58)).alloc (.cells #[.bool false, .string ⟨#[]⟩, .bool false, .string ⟨#[]⟩, .int .i64 0, .int .i64 0] 58)) fun e w' => e = .returned (.tuple #[.int .u64 (V1 : Int), .int .i64 (n1 : Int)]) ∧ w' = ((u.alloc (.cells #[.bool false, .string ⟨#[]⟩, .bool false, .string ⟨#[]⟩, .int .i64 0, .int .i64 0] 58)).alloc (.cells #[.bool false, .string ⟨#[]⟩, .bool false, .string ⟨#[]⟩, .int .i64 0, .int .i64 0] 58)))) (HZ : Hid (Calls Tryd.prog 57 #[.int .u64 (V1 : Int)] ((u.alloc (.cells #[.bool false, .string ⟨#[]⟩, .bool false, .string ⟨#[]⟩, .int .i64 0, .int .i64 0] 58)).alloc (.cells #[.bool false, .string ⟨#[]⟩, .bool false, .string ⟨#[]⟩, .int .i64 0, .int .i64 0] 58)) fun e w' => e = .returned (.int .i64 Z) ∧ w' = ((u.alloc (.cells #[.bool false, .string ⟨#[]⟩, .bool false, .string ⟨#[]⟩, .int .i64 0, .int .i64 0] 58)).alloc (.cells #[.bool false, .string ⟨#[]⟩, .bool false, .string ⟨#[]⟩, .int .i64 0, .int .i64 0] 58)))) (hi2 : 1 + n0 + n1 ≤ len) (l : List Nat) (hlen : l.length = len) (hr : Row u (some ⟨b, off, none⟩) l) (hw0 : IntKind.i64.wrap (V0 : Int) = (V0 : Int)) (hwT : IntKind.i64.wrap (first + Z) = first + Z) (hk0 : (bits .and .u8 (c : Int) 1 == 1) = true) (hv0 : (bits .and .u8 (c : Int) 2 == 2) = false) (s1 : ByteArray) (j1 : Int) (hj1 : 0 ≤ j1) (HT1 : Hid (∀ w', Row w' (some ⟨b, off, none⟩) l → Calls Tryd.prog 58 #[.slice (some ⟨b, off, none⟩) len cap, .int .i64 (1 + (n0 : Int) + (n1 : Int))] w' fun e w2 => e = .returned (.tuple #[.string s1, .int .i64 j1]) ∧ w2 = w')) :
    Calls Tryd.prog 41 #[.slice (some ⟨b, off, none⟩) len cap, .int .i64 first] u fun e w' => e = .returned (.tuple #[.agg (Rc.cells ⟨true, s1, false, ⟨#[]⟩, first + Z, (V0 : Int)⟩), .int .i64 j1, .int .i64 0]) ∧ Below u.heap.size u w' := by
  have hbw : b < u.heap.size := World.block_lt_of_cell? _ _ hc0
  have h0I : ((len : Int) == 0) = false := by rw [beq_eq_false_iff_ne]; omega
  have h0J : (0 : Int) < (len : Int) := by omega
  have h3I : ¬ (3 : Int) < (c : Int) := by omega
  have g0I : ¬ first < 0 := by omega
  have g1I : ¬ 1125899906842624 < first := by omega
  have hlI : (len : Int) ≤ 6000 := by omega
  have hlcI : (len : Int) ≤ (cap : Int) := by omega
  have hiI : 1 + (n0 : Int) ≤ (len : Int) := by omega
  have hicI : 1 + (n0 : Int) ≤ (cap : Int) := by omega
  have hi2I : 1 + (n0 : Int) + (n1 : Int) ≤ (len : Int) := by omega
  have hk1 : (bits .and .u8 (c : Int) 1 == 1) = true := hk0
  have hv1 : (bits .and .u8 (c : Int) 2 == 2) = false := hv0
  have tok1 : True := trivial
  go_enter Tryd.func41, Tryd.ntmps41
  go_wp2_with (first
    | (go_at_call 56; have _t := tok1; refine Calls.mono HU0.out ?_; clear tok1 _t; rintro e w1 ⟨rfl, hw⟩; subst w1)
    | (go_at_call 56; refine Calls.mono HU1.out ?_; rintro e w1 ⟨rfl, hw⟩; subst w1)
    | (go_at_call 57; refine Calls.mono HZ.out ?_; rintro e w1 ⟨rfl, hw⟩; subst w1))
  clear HU0 HU1 HZ
  refine wp_region_lat (fun y => Below ((u.alloc (.cells #[.bool false, .string ⟨#[]⟩, .bool false, .string ⟨#[]⟩, .int .i64 0, .int .i64 0] 58)).alloc (.cells #[.bool false, .string ⟨#[]⟩, .bool false, .string ⟨#[]⟩, .int .i64 0, .int .i64 0] 58)).heap.size ((u.alloc (.cells #[.bool false, .string ⟨#[]⟩, .bool false, .string ⟨#[]⟩, .int .i64 0, .int .i64 0] 58)).alloc (.cells #[.bool false, .string ⟨#[]⟩, .bool false, .string ⟨#[]⟩, .int .i64 0, .int .i64 0] 58)) y) 17 (by kernel_rfl) ((Below.refl _ _).drew) (fun hHeld => ?_)
  refine lat_take 0 (v := ?_) rfl (by kernel_rfl) (by kernel_rfl) (by kernel_rfl) (by kernel_rfl) (fun _ _ _ h => h) (by rfl) ?_ (by assumption) ?_
  rotate_left
  · (intro w hSw; obtain zc := two_cell hSw hc0; go_simp <;> with_reducible rfl)
  try simp only [Act.put, List.setIfInBounds_toArray, List.set_cons_zero, List.set_cons_succ]
  refine lat_take 1 (v := ?_) rfl (by kernel_rfl) (by kernel_rfl) (by kernel_rfl) (by kernel_rfl) (fun _ _ _ h => h) (by rfl) ?_ (by assumption) ?_
  rotate_left
  · (intro w hSw; obtain zc := two_cell hSw hc0; go_simp <;> with_reducible rfl)
  try simp only [Act.put, List.setIfInBounds_toArray, List.set_cons_zero, List.set_cons_succ]
  refine lat_take 2 (v := ?_) rfl (by kernel_rfl) (by kernel_rfl) (by kernel_rfl) (by kernel_rfl) (fun _ _ _ h => h) (by rfl) ?_ (by assumption) ?_
  rotate_left
  · (intro w hSw; obtain zc := two_cell hSw hc0; go_simp <;> with_reducible rfl)
  try simp only [Act.put, List.setIfInBounds_toArray, List.set_cons_zero, List.set_cons_succ]
  refine lat_take 3 (v := ?_) rfl (by kernel_rfl) (by kernel_rfl) (by kernel_rfl) (by kernel_rfl) (fun _ _ _ h => h) (by rfl) ?_ (by assumption) ?_
  rotate_left
  · (intro w hSw; obtain zc := two_cell hSw hc0; go_simp <;> with_reducible rfl)
  try simp only [Act.put, List.setIfInBounds_toArray, List.set_cons_zero, List.set_cons_succ]
  refine lat_take 4 (v := ?_) rfl (by kernel_rfl) (by kernel_rfl) (by kernel_rfl) (by kernel_rfl) (fun _ _ _ h => h) (by rfl) ?_ (by assumption) ?_
  rotate_left
  · (intro w hSw; obtain zc := two_cell hSw hc0; go_simp <;> with_reducible rfl)
  try simp only [Act.put, List.setIfInBounds_toArray, List.set_cons_zero, List.set_cons_succ]
  refine lat_take 5 (v := ?_) rfl (by kernel_rfl) (by kernel_rfl) (by kernel_rfl) (by kernel_rfl) (fun _ _ _ h => h) (by rfl) ?_ (by assumption) ?_
  rotate_left
  · (intro w hSw; obtain zc := two_cell hSw hc0; go_simp <;> with_reducible rfl)
  try simp only [Act.put, List.setIfInBounds_toArray, List.set_cons_zero, List.set_cons_succ]
  refine lat_take 6 (v := ?_) rfl (by kernel_rfl) (by kernel_rfl) (by kernel_rfl) (by kernel_rfl) (fun _ _ _ h => h) (by rfl) ?_ (by assumption) ?_
  rotate_left
  · (intro w hSw; obtain zc := two_cell hSw hc0; go_simp <;> with_reducible rfl)
  try simp only [Act.put, List.setIfInBounds_toArray, List.set_cons_zero, List.set_cons_succ]
  refine lat_take 7 (v := ?_) rfl (by kernel_rfl) (by kernel_rfl) (by kernel_rfl) (by kernel_rfl) (fun _ _ _ h => h) (by rfl) ?_ (by assumption) ?_
  rotate_left
  · (intro w hSw; obtain zc := two_cell hSw hc0; go_simp <;> with_reducible rfl)
  try simp only [Act.put, List.setIfInBounds_toArray, List.set_cons_zero, List.set_cons_succ]
  refine lat_take 8 (v := ?_) rfl (by kernel_rfl) (by kernel_rfl) (by kernel_rfl) (by kernel_rfl) (fun _ _ _ h => h) (by rfl) ?_ (by assumption) ?_
  rotate_left
  · (intro w hSw; obtain zc := two_cell hSw hc0; go_simp <;> with_reducible rfl)
  try simp only [Act.put, List.setIfInBounds_toArray, List.set_cons_zero, List.set_cons_succ]
  refine lat_take 9 (v := ?_) rfl (by kernel_rfl) (by kernel_rfl) (by kernel_rfl) (by kernel_rfl) (fun _ _ _ h => h) (by rfl) ?_ (by assumption) ?_
  rotate_left
  · (intro w hSw; obtain zc := two_cell hSw hc0; go_simp <;> with_reducible rfl)
  try simp only [Act.put, List.setIfInBounds_toArray, List.set_cons_zero, List.set_cons_succ]
  refine lat_take 10 (v := ?_) rfl (by kernel_rfl) (by kernel_rfl) (by kernel_rfl) (by kernel_rfl) (fun _ _ _ h => h) (by rfl) ?_ (by assumption) ?_
  rotate_left
  · (intro w hSw; obtain zc := two_cell hSw hc0; go_simp <;> with_reducible rfl)
  try simp only [Act.put, List.setIfInBounds_toArray, List.set_cons_zero, List.set_cons_succ]
  refine lat_take 11 (v := ?_) rfl (by kernel_rfl) (by kernel_rfl) (by kernel_rfl) (by kernel_rfl) (fun _ _ _ h => h) (by rfl) ?_ (by assumption) ?_
  rotate_left
  · (intro w hSw; obtain zc := two_cell hSw hc0; go_simp <;> with_reducible rfl)
  try simp only [Act.put, List.setIfInBounds_toArray, List.set_cons_zero, List.set_cons_succ]
  refine lat_take 12 (v := ?_) rfl (by kernel_rfl) (by kernel_rfl) (by kernel_rfl) (by kernel_rfl) (fun _ _ _ h => h) (by rfl) ?_ (by assumption) ?_
  rotate_left
  · (intro w hSw; obtain zc := two_cell hSw hc0; go_simp <;> with_reducible rfl)
  try simp only [Act.put, List.setIfInBounds_toArray, List.set_cons_zero, List.set_cons_succ]
  refine lat_take 13 (v := ?_) rfl (by kernel_rfl) (by kernel_rfl) (by kernel_rfl) (by kernel_rfl) (fun _ _ _ h => h) (by rfl) ?_ (by assumption) ?_
  rotate_left
  · (intro w hSw; obtain zc := two_cell hSw hc0; go_simp <;> with_reducible rfl)
  try simp only [Act.put, List.setIfInBounds_toArray, List.set_cons_zero, List.set_cons_succ]
  refine lat_take 14 (v := ?_) rfl (by kernel_rfl) (by kernel_rfl) (by kernel_rfl) (by kernel_rfl) (fun _ _ _ h => h) (by rfl) ?_ (by assumption) ?_
  rotate_left
  · (intro w hSw; obtain zc := two_cell hSw hc0; go_simp <;> with_reducible rfl)
  try simp only [Act.put, List.setIfInBounds_toArray, List.set_cons_zero, List.set_cons_succ]
  refine lat_take 15 (v := ?_) rfl (by kernel_rfl) (by kernel_rfl) (by kernel_rfl) (by kernel_rfl) (fun _ _ _ h => h) (by rfl) ?_ (by assumption) ?_
  rotate_left
  · (intro w hSw; obtain zc := two_cell hSw hc0; go_simp <;> with_reducible rfl)
  try simp only [Act.put, List.setIfInBounds_toArray, List.set_cons_zero, List.set_cons_succ]
  refine lat_one 16 rfl (by kernel_rfl) (by decide) (by rfl) (fun K hK => ?_)
  go_simp
  refine hK.out _ _ ?_ (fun hH2 => ?_)
  · first
      | exact ((Below.refl _ _).drew).alloc (Nat.le_refl _) _
      | exact ((Below.refl _ _).alloc (Nat.le_refl _) _).drew
  clear hK hHeld
  try simp only [Act.put, List.setIfInBounds_toArray, List.set_cons_zero, List.set_cons_succ]
  refine lat_last 17 rfl (by kernel_rfl) (by decide) (by kernel_rfl) (by rfl) (fun K hK => ?_)
  refine wp_store_row 58 _ _ rfl (u.heap.size + 1 + 1) (Rc.cells ⟨true, ⟨#[]⟩, false, ⟨#[]⟩, first + Z, (V0 : Int)⟩) rfl rfl 58 rz.cells (three_box u) Tryd.info58 rfl (rc_one _) ?_
  refine hK.out _ _ ?_
  clear hK
  try simp only [Act.put, List.setIfInBounds_toArray, List.set_cons_zero, List.set_cons_succ]
  generalize hw3 : World.setRow _ _ _ = w3
  have hbx : w3.heap[u.heap.size + 1 + 1]? = some (.cells (Rc.cells ⟨true, ⟨#[]⟩, false, ⟨#[]⟩, first + Z, (V0 : Int)⟩) 58 (0, 0)) := by rw [← hw3]; exact setRow_heap _ _ _ _ _ _ (three_box u)
  have hb3 : Below ((u.alloc (.cells #[.bool false, .string ⟨#[]⟩, .bool false, .string ⟨#[]⟩, .int .i64 0, .int .i64 0] 58)).alloc (.cells #[.bool false, .string ⟨#[]⟩, .bool false, .string ⟨#[]⟩, .int .i64 0, .int .i64 0] 58)).heap.size ((u.alloc (.cells #[.bool false, .string ⟨#[]⟩, .bool false, .string ⟨#[]⟩, .int .i64 0, .int .i64 0] 58)).alloc (.cells #[.bool false, .string ⟨#[]⟩, .bool false, .string ⟨#[]⟩, .int .i64 0, .int .i64 0] 58)) w3 := by rw [← hw3]; exact below_setRow hH2 (by simp) _
  clear hw3 hH2
  obtain ⟨e0, e1, e2, e3, e4, e5⟩ := box_cells' hbx
  simp only at e0 e1 e2 e3 e4 e5
  have ef := box_fr hbx
  have hz3 := World.block_lt_of_cell? _ _ e0
  simp only at hz3
  have HT1t : True := trivial
  have hf1 : (w3.setCell ⟨u.heap.size + 1 + 1, 1, none⟩ (.string s1)).heap[u.heap.size + 1 + 1]? = some (.cells (Rc.cells ⟨true, s1, false, ⟨#[]⟩, first + Z, (V0 : Int)⟩) 58 (0, 0)) := by rw [setCell_heap hbx]; rfl
  have hB1 : Below ((u.alloc (.cells #[.bool false, .string ⟨#[]⟩, .bool false, .string ⟨#[]⟩, .int .i64 0, .int .i64 0] 58)).alloc (.cells #[.bool false, .string ⟨#[]⟩, .bool false, .string ⟨#[]⟩, .int .i64 0, .int .i64 0] 58)).heap.size ((u.alloc (.cells #[.bool false, .string ⟨#[]⟩, .bool false, .string ⟨#[]⟩, .int .i64 0, .int .i64 0] 58)).alloc (.cells #[.bool false, .string ⟨#[]⟩, .bool false, .string ⟨#[]⟩, .int .i64 0, .int .i64 0] 58)) (w3.setCell ⟨u.heap.size + 1 + 1, 1, none⟩ (.string s1)) := hb3.setCell (p := ⟨u.heap.size + 1 + 1, 1, none⟩) (by simp) _
  have HFF : Hid _ := hf1
  have HBB : Hid _ := hB1
  have Hb1 : Hid _ := hB1
  have Hb3x : Hid _ := hb3
  clear hbx hb3 hf1 hB1
  go_wp2_with (first
    | (go_at_call 58; have _t := HT1t; refine (HT1.out _ (hr.below (two_box Hb3x.out).2.2)).mono ?_; clear HT1t _t; rintro e w4 ⟨rfl, hw⟩; subst w4)
    | (have _t := h0; refine wpList_load_row rfl 58 _ rfl (u.heap.size + 1 + 1) rfl 58 (Rc.cells ⟨true, s1, false, ⟨#[]⟩, first + Z, (V0 : Int)⟩) (0, 0) _ HFF.out Tryd.underlying58 rfl Tryd.info58 ?_)
    | (have _t := h0; refine wpList_store_row rfl 58 _ _ rfl u.heap.size (Rc.cells ⟨true, s1, false, ⟨#[]⟩, first + Z, (V0 : Int)⟩) rfl rfl 58 rz.cells (two_box HBB.out).1 Tryd.info58 rfl (rc_one _) ?_))
  refine bodyPost_ret (v := .tuple #[.agg (Rc.cells ⟨true, s1, false, ⟨#[]⟩, first + Z, (V0 : Int)⟩), .int .i64 j1, .int .i64 0]) ?_ rfl ⟨rfl, ?_⟩
  · exact results_rec (p := 4) (u := 5) (u2 := 6) (by rfl) _ _ u.heap.size ⟨true, s1, false, ⟨#[]⟩, first + Z, (V0 : Int)⟩ _ _ (by rfl) (by rfl) (by rfl) (setRow_heap _ _ _ _ _ _ (two_box HBB.out).1)
  · exact below_setRow (two_box HBB.out).2.2 (Nat.le_refl _) _
set_option maxRecDepth 100000 in
set_option maxHeartbeats 2000000 in
theorem rdec_tn (b off cap len : Nat) (first : Int) (u : World) (c : Nat) (hc0 : u.cell? ⟨b, off, none⟩ = some (.int .u8 (c : Int))) (h0 : 0 < len) (hl : len ≤ 6000) (hlc : len ≤ cap) (hcm : cap ≤ 9223372036854775807) (h3 : c ≤ 3) (f0 : 0 ≤ first) (f1 : first ≤ 1125899906842624) (hc1 : ¬ cap = 1) (V0 n0 : Nat) (hn0 : ((n0 : Int) == 0) = false) (hV : ¬ (100 : Int) ≤ (V0 : Int)) (HU0 : Hid (Calls Tryd.prog 56 #[.slice (some ⟨b, off + 1, none⟩) (len - 1) (cap - 1)] ((u.alloc (.cells #[.bool false, .string ⟨#[]⟩, .bool false, .string ⟨#[]⟩, .int .i64 0, .int .i64 0] 58)).alloc (.cells #[.bool false, .string ⟨#[]⟩, .bool false, .string ⟨#[]⟩, .int .i64 0, .int .i64 0] 58)) fun e w' => e = .returned (.tuple #[.int .u64 (V0 : Int), .int .i64 (n0 : Int)]) ∧ w' = ((u.alloc (.cells #[.bool false, .string ⟨#[]⟩, .bool false, .string ⟨#[]⟩, .int .i64 0, .int .i64 0] 58)).alloc (.cells #[.bool false, .string ⟨#[]⟩, .bool false, .string ⟨#[]⟩, .int .i64 0, .int .i64 0] 58)))) (hi : 1 + n0 ≤ len) (hc2 : ¬ cap = 1 + n0) (V1 n1 : Nat) (Z : Int) (hn1 : ((n1 : Int) == 0) = false) (hd0 : ¬ Z < -first) (hd : ¬ 1125899906842624 - first < Z) (HU1 : Hid (Calls Tryd.prog 56 #[.slice (some ⟨b, off + (1 + n0), none⟩) (len - (1 + n0)) (cap - (1 + n0))] ((u.alloc (.cells #[.bool false, .string ⟨#[]⟩, .bool false, .string ⟨#[]⟩, .int .i64 0, .int .i64 0] 58)).alloc (.cells #[.bool false, .string ⟨#[]⟩, .bool false, .string ⟨#[]⟩, .int .i64 0, .int .i64 0] 58)) fun e w' => e = .returned (.tuple #[.int .u64 (V1 : Int), .int .i64 (n1 : Int)]) ∧ w' = ((u.alloc (.cells #[.bool false, .string ⟨#[]⟩, .bool false, .string ⟨#[]⟩, .int .i64 0, .int .i64 0] 58)).alloc (.cells #[.bool false, .string ⟨#[]⟩, .bool false, .string ⟨#[]⟩, .int .i64 0, .int .i64 0] 58)))) (HZ : Hid (Calls Tryd.prog 57 #[.int .u64 (V1 : Int)] ((u.alloc (.cells #[.bool false, .string ⟨#[]⟩, .bool false, .string ⟨#[]⟩, .int .i64 0, .int .i64 0] 58)).alloc (.cells #[.bool false, .string ⟨#[]⟩, .bool false, .string ⟨#[]⟩, .int .i64 0, .int .i64 0] 58)) fun e w' => e = .returned (.int .i64 Z) ∧ w' = ((u.alloc (.cells #[.bool false, .string ⟨#[]⟩, .bool false, .string ⟨#[]⟩, .int .i64 0, .int .i64 0] 58)).alloc (.cells #[.bool false, .string ⟨#[]⟩, .bool false, .string ⟨#[]⟩, .int .i64 0, .int .i64 0] 58)))) (hi2 : 1 + n0 + n1 ≤ len) (l : List Nat) (hlen : l.length = len) (hr : Row u (some ⟨b, off, none⟩) l) (hw0 : IntKind.i64.wrap (V0 : Int) = (V0 : Int)) (hwT : IntKind.i64.wrap (first + Z) = first + Z) (hk0 : (bits .and .u8 (c : Int) 1 == 1) = true) (hv0 : (bits .and .u8 (c : Int) 2 == 2) = false) (s1 : ByteArray) (j1 : Int) (hj1 : j1 < 0) (HT1 : Hid (∀ w', Row w' (some ⟨b, off, none⟩) l → Calls Tryd.prog 58 #[.slice (some ⟨b, off, none⟩) len cap, .int .i64 (1 + (n0 : Int) + (n1 : Int))] w' fun e w2 => e = .returned (.tuple #[.string s1, .int .i64 j1]) ∧ w2 = w')) :
    Calls Tryd.prog 41 #[.slice (some ⟨b, off, none⟩) len cap, .int .i64 first] u fun e w' => e = .returned (.tuple #[.agg rz.cells, .int .i64 0, .int .i64 10]) ∧ Below u.heap.size u w' := by
  have hbw : b < u.heap.size := World.block_lt_of_cell? _ _ hc0
  have h0I : ((len : Int) == 0) = false := by rw [beq_eq_false_iff_ne]; omega
  have h0J : (0 : Int) < (len : Int) := by omega
  have h3I : ¬ (3 : Int) < (c : Int) := by omega
  have g0I : ¬ first < 0 := by omega
  have g1I : ¬ 1125899906842624 < first := by omega
  have hlI : (len : Int) ≤ 6000 := by omega
  have hlcI : (len : Int) ≤ (cap : Int) := by omega
  have hiI : 1 + (n0 : Int) ≤ (len : Int) := by omega
  have hicI : 1 + (n0 : Int) ≤ (cap : Int) := by omega
  have hi2I : 1 + (n0 : Int) + (n1 : Int) ≤ (len : Int) := by omega
  have hk1 : (bits .and .u8 (c : Int) 1 == 1) = true := hk0
  have hv1 : (bits .and .u8 (c : Int) 2 == 2) = false := hv0
  have tok1 : True := trivial
  go_enter Tryd.func41, Tryd.ntmps41
  go_wp2_with (first
    | (go_at_call 56; have _t := tok1; refine Calls.mono HU0.out ?_; clear tok1 _t; rintro e w1 ⟨rfl, hw⟩; subst w1)
    | (go_at_call 56; refine Calls.mono HU1.out ?_; rintro e w1 ⟨rfl, hw⟩; subst w1)
    | (go_at_call 57; refine Calls.mono HZ.out ?_; rintro e w1 ⟨rfl, hw⟩; subst w1))
  clear HU0 HU1 HZ
  refine wp_region_lat (fun y => Below ((u.alloc (.cells #[.bool false, .string ⟨#[]⟩, .bool false, .string ⟨#[]⟩, .int .i64 0, .int .i64 0] 58)).alloc (.cells #[.bool false, .string ⟨#[]⟩, .bool false, .string ⟨#[]⟩, .int .i64 0, .int .i64 0] 58)).heap.size ((u.alloc (.cells #[.bool false, .string ⟨#[]⟩, .bool false, .string ⟨#[]⟩, .int .i64 0, .int .i64 0] 58)).alloc (.cells #[.bool false, .string ⟨#[]⟩, .bool false, .string ⟨#[]⟩, .int .i64 0, .int .i64 0] 58)) y) 17 (by kernel_rfl) ((Below.refl _ _).drew) (fun hHeld => ?_)
  refine lat_take 0 (v := ?_) rfl (by kernel_rfl) (by kernel_rfl) (by kernel_rfl) (by kernel_rfl) (fun _ _ _ h => h) (by rfl) ?_ (by assumption) ?_
  rotate_left
  · (intro w hSw; obtain zc := two_cell hSw hc0; go_simp <;> with_reducible rfl)
  try simp only [Act.put, List.setIfInBounds_toArray, List.set_cons_zero, List.set_cons_succ]
  refine lat_take 1 (v := ?_) rfl (by kernel_rfl) (by kernel_rfl) (by kernel_rfl) (by kernel_rfl) (fun _ _ _ h => h) (by rfl) ?_ (by assumption) ?_
  rotate_left
  · (intro w hSw; obtain zc := two_cell hSw hc0; go_simp <;> with_reducible rfl)
  try simp only [Act.put, List.setIfInBounds_toArray, List.set_cons_zero, List.set_cons_succ]
  refine lat_take 2 (v := ?_) rfl (by kernel_rfl) (by kernel_rfl) (by kernel_rfl) (by kernel_rfl) (fun _ _ _ h => h) (by rfl) ?_ (by assumption) ?_
  rotate_left
  · (intro w hSw; obtain zc := two_cell hSw hc0; go_simp <;> with_reducible rfl)
  try simp only [Act.put, List.setIfInBounds_toArray, List.set_cons_zero, List.set_cons_succ]
  refine lat_take 3 (v := ?_) rfl (by kernel_rfl) (by kernel_rfl) (by kernel_rfl) (by kernel_rfl) (fun _ _ _ h => h) (by rfl) ?_ (by assumption) ?_
  rotate_left
  · (intro w hSw; obtain zc := two_cell hSw hc0; go_simp <;> with_reducible rfl)
  try simp only [Act.put, List.setIfInBounds_toArray, List.set_cons_zero, List.set_cons_succ]
  refine lat_take 4 (v := ?_) rfl (by kernel_rfl) (by kernel_rfl) (by kernel_rfl) (by kernel_rfl) (fun _ _ _ h => h) (by rfl) ?_ (by assumption) ?_
  rotate_left
  · (intro w hSw; obtain zc := two_cell hSw hc0; go_simp <;> with_reducible rfl)
  try simp only [Act.put, List.setIfInBounds_toArray, List.set_cons_zero, List.set_cons_succ]
  refine lat_take 5 (v := ?_) rfl (by kernel_rfl) (by kernel_rfl) (by kernel_rfl) (by kernel_rfl) (fun _ _ _ h => h) (by rfl) ?_ (by assumption) ?_
  rotate_left
  · (intro w hSw; obtain zc := two_cell hSw hc0; go_simp <;> with_reducible rfl)
  try simp only [Act.put, List.setIfInBounds_toArray, List.set_cons_zero, List.set_cons_succ]
  refine lat_take 6 (v := ?_) rfl (by kernel_rfl) (by kernel_rfl) (by kernel_rfl) (by kernel_rfl) (fun _ _ _ h => h) (by rfl) ?_ (by assumption) ?_
  rotate_left
  · (intro w hSw; obtain zc := two_cell hSw hc0; go_simp <;> with_reducible rfl)
  try simp only [Act.put, List.setIfInBounds_toArray, List.set_cons_zero, List.set_cons_succ]
  refine lat_take 7 (v := ?_) rfl (by kernel_rfl) (by kernel_rfl) (by kernel_rfl) (by kernel_rfl) (fun _ _ _ h => h) (by rfl) ?_ (by assumption) ?_
  rotate_left
  · (intro w hSw; obtain zc := two_cell hSw hc0; go_simp <;> with_reducible rfl)
  try simp only [Act.put, List.setIfInBounds_toArray, List.set_cons_zero, List.set_cons_succ]
  refine lat_take 8 (v := ?_) rfl (by kernel_rfl) (by kernel_rfl) (by kernel_rfl) (by kernel_rfl) (fun _ _ _ h => h) (by rfl) ?_ (by assumption) ?_
  rotate_left
  · (intro w hSw; obtain zc := two_cell hSw hc0; go_simp <;> with_reducible rfl)
  try simp only [Act.put, List.setIfInBounds_toArray, List.set_cons_zero, List.set_cons_succ]
  refine lat_take 9 (v := ?_) rfl (by kernel_rfl) (by kernel_rfl) (by kernel_rfl) (by kernel_rfl) (fun _ _ _ h => h) (by rfl) ?_ (by assumption) ?_
  rotate_left
  · (intro w hSw; obtain zc := two_cell hSw hc0; go_simp <;> with_reducible rfl)
  try simp only [Act.put, List.setIfInBounds_toArray, List.set_cons_zero, List.set_cons_succ]
  refine lat_take 10 (v := ?_) rfl (by kernel_rfl) (by kernel_rfl) (by kernel_rfl) (by kernel_rfl) (fun _ _ _ h => h) (by rfl) ?_ (by assumption) ?_
  rotate_left
  · (intro w hSw; obtain zc := two_cell hSw hc0; go_simp <;> with_reducible rfl)
  try simp only [Act.put, List.setIfInBounds_toArray, List.set_cons_zero, List.set_cons_succ]
  refine lat_take 11 (v := ?_) rfl (by kernel_rfl) (by kernel_rfl) (by kernel_rfl) (by kernel_rfl) (fun _ _ _ h => h) (by rfl) ?_ (by assumption) ?_
  rotate_left
  · (intro w hSw; obtain zc := two_cell hSw hc0; go_simp <;> with_reducible rfl)
  try simp only [Act.put, List.setIfInBounds_toArray, List.set_cons_zero, List.set_cons_succ]
  refine lat_take 12 (v := ?_) rfl (by kernel_rfl) (by kernel_rfl) (by kernel_rfl) (by kernel_rfl) (fun _ _ _ h => h) (by rfl) ?_ (by assumption) ?_
  rotate_left
  · (intro w hSw; obtain zc := two_cell hSw hc0; go_simp <;> with_reducible rfl)
  try simp only [Act.put, List.setIfInBounds_toArray, List.set_cons_zero, List.set_cons_succ]
  refine lat_take 13 (v := ?_) rfl (by kernel_rfl) (by kernel_rfl) (by kernel_rfl) (by kernel_rfl) (fun _ _ _ h => h) (by rfl) ?_ (by assumption) ?_
  rotate_left
  · (intro w hSw; obtain zc := two_cell hSw hc0; go_simp <;> with_reducible rfl)
  try simp only [Act.put, List.setIfInBounds_toArray, List.set_cons_zero, List.set_cons_succ]
  refine lat_take 14 (v := ?_) rfl (by kernel_rfl) (by kernel_rfl) (by kernel_rfl) (by kernel_rfl) (fun _ _ _ h => h) (by rfl) ?_ (by assumption) ?_
  rotate_left
  · (intro w hSw; obtain zc := two_cell hSw hc0; go_simp <;> with_reducible rfl)
  try simp only [Act.put, List.setIfInBounds_toArray, List.set_cons_zero, List.set_cons_succ]
  refine lat_take 15 (v := ?_) rfl (by kernel_rfl) (by kernel_rfl) (by kernel_rfl) (by kernel_rfl) (fun _ _ _ h => h) (by rfl) ?_ (by assumption) ?_
  rotate_left
  · (intro w hSw; obtain zc := two_cell hSw hc0; go_simp <;> with_reducible rfl)
  try simp only [Act.put, List.setIfInBounds_toArray, List.set_cons_zero, List.set_cons_succ]
  refine lat_one 16 rfl (by kernel_rfl) (by decide) (by rfl) (fun K hK => ?_)
  go_simp
  refine hK.out _ _ ?_ (fun hH2 => ?_)
  · first
      | exact ((Below.refl _ _).drew).alloc (Nat.le_refl _) _
      | exact ((Below.refl _ _).alloc (Nat.le_refl _) _).drew
  clear hK hHeld
  try simp only [Act.put, List.setIfInBounds_toArray, List.set_cons_zero, List.set_cons_succ]
  refine lat_last 17 rfl (by kernel_rfl) (by decide) (by kernel_rfl) (by rfl) (fun K hK => ?_)
  refine wp_store_row 58 _ _ rfl (u.heap.size + 1 + 1) (Rc.cells ⟨true, ⟨#[]⟩, false, ⟨#[]⟩, first + Z, (V0 : Int)⟩) rfl rfl 58 rz.cells (three_box u) Tryd.info58 rfl (rc_one _) ?_
  refine hK.out _ _ ?_
  clear hK
  try simp only [Act.put, List.setIfInBounds_toArray, List.set_cons_zero, List.set_cons_succ]
  generalize hw3 : World.setRow _ _ _ = w3
  have hbx : w3.heap[u.heap.size + 1 + 1]? = some (.cells (Rc.cells ⟨true, ⟨#[]⟩, false, ⟨#[]⟩, first + Z, (V0 : Int)⟩) 58 (0, 0)) := by rw [← hw3]; exact setRow_heap _ _ _ _ _ _ (three_box u)
  have hb3 : Below ((u.alloc (.cells #[.bool false, .string ⟨#[]⟩, .bool false, .string ⟨#[]⟩, .int .i64 0, .int .i64 0] 58)).alloc (.cells #[.bool false, .string ⟨#[]⟩, .bool false, .string ⟨#[]⟩, .int .i64 0, .int .i64 0] 58)).heap.size ((u.alloc (.cells #[.bool false, .string ⟨#[]⟩, .bool false, .string ⟨#[]⟩, .int .i64 0, .int .i64 0] 58)).alloc (.cells #[.bool false, .string ⟨#[]⟩, .bool false, .string ⟨#[]⟩, .int .i64 0, .int .i64 0] 58)) w3 := by rw [← hw3]; exact below_setRow hH2 (by simp) _
  clear hw3 hH2
  obtain ⟨e0, e1, e2, e3, e4, e5⟩ := box_cells' hbx
  simp only at e0 e1 e2 e3 e4 e5
  have ef := box_fr hbx
  have hz3 := World.block_lt_of_cell? _ _ e0
  simp only at hz3
  have HT1t : True := trivial
  have hf1 : (w3.setCell ⟨u.heap.size + 1 + 1, 1, none⟩ (.string s1)).heap[u.heap.size + 1 + 1]? = some (.cells (Rc.cells ⟨true, s1, false, ⟨#[]⟩, first + Z, (V0 : Int)⟩) 58 (0, 0)) := by rw [setCell_heap hbx]; rfl
  have hB1 : Below ((u.alloc (.cells #[.bool false, .string ⟨#[]⟩, .bool false, .string ⟨#[]⟩, .int .i64 0, .int .i64 0] 58)).alloc (.cells #[.bool false, .string ⟨#[]⟩, .bool false, .string ⟨#[]⟩, .int .i64 0, .int .i64 0] 58)).heap.size ((u.alloc (.cells #[.bool false, .string ⟨#[]⟩, .bool false, .string ⟨#[]⟩, .int .i64 0, .int .i64 0] 58)).alloc (.cells #[.bool false, .string ⟨#[]⟩, .bool false, .string ⟨#[]⟩, .int .i64 0, .int .i64 0] 58)) (w3.setCell ⟨u.heap.size + 1 + 1, 1, none⟩ (.string s1)) := hb3.setCell (p := ⟨u.heap.size + 1 + 1, 1, none⟩) (by simp) _
  have HFF : Hid _ := hf1
  have HBB : Hid _ := hB1
  have Hb1 : Hid _ := hB1
  have Hb3x : Hid _ := hb3
  clear hbx hb3 hf1 hB1
  go_wp2_with (first
    | (go_at_call 58; have _t := HT1t; refine (HT1.out _ (hr.below (two_box Hb3x.out).2.2)).mono ?_; clear HT1t _t; rintro e w4 ⟨rfl, hw⟩; subst w4)
    | (have _t := h0; refine wpList_load_row rfl 58 _ rfl (u.heap.size + 1) rfl 58 rz.cells (0, 0) _ (two_box HBB.out).2.1 Tryd.underlying58 rfl Tryd.info58 ?_)
    | (have _t := h0; refine wpList_store_row rfl 58 _ _ rfl u.heap.size rz.cells rfl rfl 58 rz.cells (two_box HBB.out).1 Tryd.info58 rfl (rc_one _) ?_))
  refine bodyPost_ret (v := .tuple #[.agg rz.cells, .int .i64 0, .int .i64 10]) ?_ rfl ⟨rfl, ?_⟩
  · exact results_rec (p := 4) (u := 5) (u2 := 6) (by rfl) _ _ u.heap.size rz _ _ (by rfl) (by rfl) (by rfl) (setRow_heap _ _ _ _ _ _ (two_box HBB.out).1)
  · exact below_setRow (two_box HBB.out).2.2 (Nat.le_refl _) _
set_option maxRecDepth 100000 in
set_option maxHeartbeats 2000000 in
theorem rdec_ft (b off cap len : Nat) (first : Int) (u : World) (c : Nat) (hc0 : u.cell? ⟨b, off, none⟩ = some (.int .u8 (c : Int))) (h0 : 0 < len) (hl : len ≤ 6000) (hlc : len ≤ cap) (hcm : cap ≤ 9223372036854775807) (h3 : c ≤ 3) (f0 : 0 ≤ first) (f1 : first ≤ 1125899906842624) (hc1 : ¬ cap = 1) (V0 n0 : Nat) (hn0 : ((n0 : Int) == 0) = false) (hV : ¬ (100 : Int) ≤ (V0 : Int)) (HU0 : Hid (Calls Tryd.prog 56 #[.slice (some ⟨b, off + 1, none⟩) (len - 1) (cap - 1)] ((u.alloc (.cells #[.bool false, .string ⟨#[]⟩, .bool false, .string ⟨#[]⟩, .int .i64 0, .int .i64 0] 58)).alloc (.cells #[.bool false, .string ⟨#[]⟩, .bool false, .string ⟨#[]⟩, .int .i64 0, .int .i64 0] 58)) fun e w' => e = .returned (.tuple #[.int .u64 (V0 : Int), .int .i64 (n0 : Int)]) ∧ w' = ((u.alloc (.cells #[.bool false, .string ⟨#[]⟩, .bool false, .string ⟨#[]⟩, .int .i64 0, .int .i64 0] 58)).alloc (.cells #[.bool false, .string ⟨#[]⟩, .bool false, .string ⟨#[]⟩, .int .i64 0, .int .i64 0] 58)))) (hi : 1 + n0 ≤ len) (hc2 : ¬ cap = 1 + n0) (V1 n1 : Nat) (Z : Int) (hn1 : ((n1 : Int) == 0) = false) (hd0 : ¬ Z < -first) (hd : ¬ 1125899906842624 - first < Z) (HU1 : Hid (Calls Tryd.prog 56 #[.slice (some ⟨b, off + (1 + n0), none⟩) (len - (1 + n0)) (cap - (1 + n0))] ((u.alloc (.cells #[.bool false, .string ⟨#[]⟩, .bool false, .string ⟨#[]⟩, .int .i64 0, .int .i64 0] 58)).alloc (.cells #[.bool false, .string ⟨#[]⟩, .bool false, .string ⟨#[]⟩, .int .i64 0, .int .i64 0] 58)) fun e w' => e = .returned (.tuple #[.int .u64 (V1 : Int), .int .i64 (n1 : Int)]) ∧ w' = ((u.alloc (.cells #[.bool false, .string ⟨#[]⟩, .bool false, .string ⟨#[]⟩, .int .i64 0, .int .i64 0] 58)).alloc (.cells #[.bool false, .string ⟨#[]⟩, .bool false, .string ⟨#[]⟩, .int .i64 0, .int .i64 0] 58)))) (HZ : Hid (Calls Tryd.prog 57 #[.int .u64 (V1 : Int)] ((u.alloc (.cells #[.bool false, .string ⟨#[]⟩, .bool false, .string ⟨#[]⟩, .int .i64 0, .int .i64 0] 58)).alloc (.cells #[.bool false, .string ⟨#[]⟩, .bool false, .string ⟨#[]⟩, .int .i64 0, .int .i64 0] 58)) fun e w' => e = .returned (.int .i64 Z) ∧ w' = ((u.alloc (.cells #[.bool false, .string ⟨#[]⟩, .bool false, .string ⟨#[]⟩, .int .i64 0, .int .i64 0] 58)).alloc (.cells #[.bool false, .string ⟨#[]⟩, .bool false, .string ⟨#[]⟩, .int .i64 0, .int .i64 0] 58)))) (hi2 : 1 + n0 + n1 ≤ len) (l : List Nat) (hlen : l.length = len) (hr : Row u (some ⟨b, off, none⟩) l) (hw0 : IntKind.i64.wrap (V0 : Int) = (V0 : Int)) (hwT : IntKind.i64.wrap (first + Z) = first + Z) (hk0 : (bits .and .u8 (c : Int) 1 == 1) = false) (hv0 : (bits .and .u8 (c : Int) 2 == 2) = true) (s2 : ByteArray) (j2 : Int) (hj2 : 0 ≤ j2) (HT2 : Hid (∀ w', Row w' (some ⟨b, off, none⟩) l → Calls Tryd.prog 58 #[.slice (some ⟨b, off, none⟩) len cap, .int .i64 (1 + (n0 : Int) + (n1 : Int))] w' fun e w2 => e = .returned (.tuple #[.string s2, .int .i64 j2]) ∧ w2 = w')) :
    Calls Tryd.prog 41 #[.slice (some ⟨b, off, none⟩) len cap, .int .i64 first] u fun e w' => e = .returned (.tuple #[.agg (Rc.cells ⟨false, ⟨#[]⟩, true, s2, first + Z, (V0 : Int)⟩), .int .i64 j2, .int .i64 0]) ∧ Below u.heap.size u w' := by
  have hbw : b < u.heap.size := World.block_lt_of_cell? _ _ hc0
  have h0I : ((len : Int) == 0) = false := by rw [beq_eq_false_iff_ne]; omega
  have h0J : (0 : Int) < (len : Int) := by omega
  have h3I : ¬ (3 : Int) < (c : Int) := by omega
  have g0I : ¬ first < 0 := by omega
  have g1I : ¬ 1125899906842624 < first := by omega
  have hlI : (len : Int) ≤ 6000 := by omega
  have hlcI : (len : Int) ≤ (cap : Int) := by omega
  have hiI : 1 + (n0 : Int) ≤ (len : Int) := by omega
  have hicI : 1 + (n0 : Int) ≤ (cap : Int) := by omega
  have hi2I : 1 + (n0 : Int) + (n1 : Int) ≤ (len : Int) := by omega
  have hk1 : (bits .and .u8 (c : Int) 1 == 1) = false := hk0
  have hv1 : (bits .and .u8 (c : Int) 2 == 2) = true := hv0
  have tok1 : True := trivial
  go_enter Tryd.func41, Tryd.ntmps41
  go_wp2_with (first
    | (go_at_call 56; have _t := tok1; refine Calls.mono HU0.out ?_; clear tok1 _t; rintro e w1 ⟨rfl, hw⟩; subst w1)
    | (go_at_call 56; refine Calls.mono HU1.out ?_; rintro e w1 ⟨rfl, hw⟩; subst w1)
    | (go_at_call 57; refine Calls.mono HZ.out ?_; rintro e w1 ⟨rfl, hw⟩; subst w1))
  clear HU0 HU1 HZ
  refine wp_region_lat (fun y => Below ((u.alloc (.cells #[.bool false, .string ⟨#[]⟩, .bool false, .string ⟨#[]⟩, .int .i64 0, .int .i64 0] 58)).alloc (.cells #[.bool false, .string ⟨#[]⟩, .bool false, .string ⟨#[]⟩, .int .i64 0, .int .i64 0] 58)).heap.size ((u.alloc (.cells #[.bool false, .string ⟨#[]⟩, .bool false, .string ⟨#[]⟩, .int .i64 0, .int .i64 0] 58)).alloc (.cells #[.bool false, .string ⟨#[]⟩, .bool false, .string ⟨#[]⟩, .int .i64 0, .int .i64 0] 58)) y) 17 (by kernel_rfl) ((Below.refl _ _).drew) (fun hHeld => ?_)
  refine lat_take 0 (v := ?_) rfl (by kernel_rfl) (by kernel_rfl) (by kernel_rfl) (by kernel_rfl) (fun _ _ _ h => h) (by rfl) ?_ (by assumption) ?_
  rotate_left
  · (intro w hSw; obtain zc := two_cell hSw hc0; go_simp <;> with_reducible rfl)
  try simp only [Act.put, List.setIfInBounds_toArray, List.set_cons_zero, List.set_cons_succ]
  refine lat_take 1 (v := ?_) rfl (by kernel_rfl) (by kernel_rfl) (by kernel_rfl) (by kernel_rfl) (fun _ _ _ h => h) (by rfl) ?_ (by assumption) ?_
  rotate_left
  · (intro w hSw; obtain zc := two_cell hSw hc0; go_simp <;> with_reducible rfl)
  try simp only [Act.put, List.setIfInBounds_toArray, List.set_cons_zero, List.set_cons_succ]
  refine lat_take 2 (v := ?_) rfl (by kernel_rfl) (by kernel_rfl) (by kernel_rfl) (by kernel_rfl) (fun _ _ _ h => h) (by rfl) ?_ (by assumption) ?_
  rotate_left
  · (intro w hSw; obtain zc := two_cell hSw hc0; go_simp <;> with_reducible rfl)
  try simp only [Act.put, List.setIfInBounds_toArray, List.set_cons_zero, List.set_cons_succ]
  refine lat_take 3 (v := ?_) rfl (by kernel_rfl) (by kernel_rfl) (by kernel_rfl) (by kernel_rfl) (fun _ _ _ h => h) (by rfl) ?_ (by assumption) ?_
  rotate_left
  · (intro w hSw; obtain zc := two_cell hSw hc0; go_simp <;> with_reducible rfl)
  try simp only [Act.put, List.setIfInBounds_toArray, List.set_cons_zero, List.set_cons_succ]
  refine lat_take 4 (v := ?_) rfl (by kernel_rfl) (by kernel_rfl) (by kernel_rfl) (by kernel_rfl) (fun _ _ _ h => h) (by rfl) ?_ (by assumption) ?_
  rotate_left
  · (intro w hSw; obtain zc := two_cell hSw hc0; go_simp <;> with_reducible rfl)
  try simp only [Act.put, List.setIfInBounds_toArray, List.set_cons_zero, List.set_cons_succ]
  refine lat_take 5 (v := ?_) rfl (by kernel_rfl) (by kernel_rfl) (by kernel_rfl) (by kernel_rfl) (fun _ _ _ h => h) (by rfl) ?_ (by assumption) ?_
  rotate_left
  · (intro w hSw; obtain zc := two_cell hSw hc0; go_simp <;> with_reducible rfl)
  try simp only [Act.put, List.setIfInBounds_toArray, List.set_cons_zero, List.set_cons_succ]
  refine lat_take 6 (v := ?_) rfl (by kernel_rfl) (by kernel_rfl) (by kernel_rfl) (by kernel_rfl) (fun _ _ _ h => h) (by rfl) ?_ (by assumption) ?_
  rotate_left
  · (intro w hSw; obtain zc := two_cell hSw hc0; go_simp <;> with_reducible rfl)
  try simp only [Act.put, List.setIfInBounds_toArray, List.set_cons_zero, List.set_cons_succ]
  refine lat_take 7 (v := ?_) rfl (by kernel_rfl) (by kernel_rfl) (by kernel_rfl) (by kernel_rfl) (fun _ _ _ h => h) (by rfl) ?_ (by assumption) ?_
  rotate_left
  · (intro w hSw; obtain zc := two_cell hSw hc0; go_simp <;> with_reducible rfl)
  try simp only [Act.put, List.setIfInBounds_toArray, List.set_cons_zero, List.set_cons_succ]
  refine lat_take 8 (v := ?_) rfl (by kernel_rfl) (by kernel_rfl) (by kernel_rfl) (by kernel_rfl) (fun _ _ _ h => h) (by rfl) ?_ (by assumption) ?_
  rotate_left
  · (intro w hSw; obtain zc := two_cell hSw hc0; go_simp <;> with_reducible rfl)
  try simp only [Act.put, List.setIfInBounds_toArray, List.set_cons_zero, List.set_cons_succ]
  refine lat_take 9 (v := ?_) rfl (by kernel_rfl) (by kernel_rfl) (by kernel_rfl) (by kernel_rfl) (fun _ _ _ h => h) (by rfl) ?_ (by assumption) ?_
  rotate_left
  · (intro w hSw; obtain zc := two_cell hSw hc0; go_simp <;> with_reducible rfl)
  try simp only [Act.put, List.setIfInBounds_toArray, List.set_cons_zero, List.set_cons_succ]
  refine lat_take 10 (v := ?_) rfl (by kernel_rfl) (by kernel_rfl) (by kernel_rfl) (by kernel_rfl) (fun _ _ _ h => h) (by rfl) ?_ (by assumption) ?_
  rotate_left
  · (intro w hSw; obtain zc := two_cell hSw hc0; go_simp <;> with_reducible rfl)
  try simp only [Act.put, List.setIfInBounds_toArray, List.set_cons_zero, List.set_cons_succ]
  refine lat_take 11 (v := ?_) rfl (by kernel_rfl) (by kernel_rfl) (by kernel_rfl) (by kernel_rfl) (fun _ _ _ h => h) (by rfl) ?_ (by assumption) ?_
  rotate_left
  · (intro w hSw; obtain zc := two_cell hSw hc0; go_simp <;> with_reducible rfl)
  try simp only [Act.put, List.setIfInBounds_toArray, List.set_cons_zero, List.set_cons_succ]
  refine lat_take 12 (v := ?_) rfl (by kernel_rfl) (by kernel_rfl) (by kernel_rfl) (by kernel_rfl) (fun _ _ _ h => h) (by rfl) ?_ (by assumption) ?_
  rotate_left
  · (intro w hSw; obtain zc := two_cell hSw hc0; go_simp <;> with_reducible rfl)
  try simp only [Act.put, List.setIfInBounds_toArray, List.set_cons_zero, List.set_cons_succ]
  refine lat_take 13 (v := ?_) rfl (by kernel_rfl) (by kernel_rfl) (by kernel_rfl) (by kernel_rfl) (fun _ _ _ h => h) (by rfl) ?_ (by assumption) ?_
  rotate_left
  · (intro w hSw; obtain zc := two_cell hSw hc0; go_simp <;> with_reducible rfl)
  try simp only [Act.put, List.setIfInBounds_toArray, List.set_cons_zero, List.set_cons_succ]
  refine lat_take 14 (v := ?_) rfl (by kernel_rfl) (by kernel_rfl) (by kernel_rfl) (by kernel_rfl) (fun _ _ _ h => h) (by rfl) ?_ (by assumption) ?_
  rotate_left
  · (intro w hSw; obtain zc := two_cell hSw hc0; go_simp <;> with_reducible rfl)
  try simp only [Act.put, List.setIfInBounds_toArray, List.set_cons_zero, List.set_cons_succ]
  refine lat_take 15 (v := ?_) rfl (by kernel_rfl) (by kernel_rfl) (by kernel_rfl) (by kernel_rfl) (fun _ _ _ h => h) (by rfl) ?_ (by assumption) ?_
  rotate_left
  · (intro w hSw; obtain zc := two_cell hSw hc0; go_simp <;> with_reducible rfl)
  try simp only [Act.put, List.setIfInBounds_toArray, List.set_cons_zero, List.set_cons_succ]
  refine lat_one 16 rfl (by kernel_rfl) (by decide) (by rfl) (fun K hK => ?_)
  go_simp
  refine hK.out _ _ ?_ (fun hH2 => ?_)
  · first
      | exact ((Below.refl _ _).drew).alloc (Nat.le_refl _) _
      | exact ((Below.refl _ _).alloc (Nat.le_refl _) _).drew
  clear hK hHeld
  try simp only [Act.put, List.setIfInBounds_toArray, List.set_cons_zero, List.set_cons_succ]
  refine lat_last 17 rfl (by kernel_rfl) (by decide) (by kernel_rfl) (by rfl) (fun K hK => ?_)
  refine wp_store_row 58 _ _ rfl (u.heap.size + 1 + 1) (Rc.cells ⟨false, ⟨#[]⟩, true, ⟨#[]⟩, first + Z, (V0 : Int)⟩) rfl rfl 58 rz.cells (three_box u) Tryd.info58 rfl (rc_one _) ?_
  refine hK.out _ _ ?_
  clear hK
  try simp only [Act.put, List.setIfInBounds_toArray, List.set_cons_zero, List.set_cons_succ]
  generalize hw3 : World.setRow _ _ _ = w3
  have hbx : w3.heap[u.heap.size + 1 + 1]? = some (.cells (Rc.cells ⟨false, ⟨#[]⟩, true, ⟨#[]⟩, first + Z, (V0 : Int)⟩) 58 (0, 0)) := by rw [← hw3]; exact setRow_heap _ _ _ _ _ _ (three_box u)
  have hb3 : Below ((u.alloc (.cells #[.bool false, .string ⟨#[]⟩, .bool false, .string ⟨#[]⟩, .int .i64 0, .int .i64 0] 58)).alloc (.cells #[.bool false, .string ⟨#[]⟩, .bool false, .string ⟨#[]⟩, .int .i64 0, .int .i64 0] 58)).heap.size ((u.alloc (.cells #[.bool false, .string ⟨#[]⟩, .bool false, .string ⟨#[]⟩, .int .i64 0, .int .i64 0] 58)).alloc (.cells #[.bool false, .string ⟨#[]⟩, .bool false, .string ⟨#[]⟩, .int .i64 0, .int .i64 0] 58)) w3 := by rw [← hw3]; exact below_setRow hH2 (by simp) _
  clear hw3 hH2
  obtain ⟨e0, e1, e2, e3, e4, e5⟩ := box_cells' hbx
  simp only at e0 e1 e2 e3 e4 e5
  have ef := box_fr hbx
  have hz3 := World.block_lt_of_cell? _ _ e0
  simp only at hz3
  have HT2t : True := trivial
  have hf3 : (w3.setCell ⟨u.heap.size + 1 + 1, 3, none⟩ (.string s2)).heap[u.heap.size + 1 + 1]? = some (.cells (Rc.cells ⟨false, ⟨#[]⟩, true, s2, first + Z, (V0 : Int)⟩) 58 (0, 0)) := by rw [setCell_heap hbx]; rfl
  have hB3 : Below ((u.alloc (.cells #[.bool false, .string ⟨#[]⟩, .bool false, .string ⟨#[]⟩, .int .i64 0, .int .i64 0] 58)).alloc (.cells #[.bool false, .string ⟨#[]⟩, .bool false, .string ⟨#[]⟩, .int .i64 0, .int .i64 0] 58)).heap.size ((u.alloc (.cells #[.bool false, .string ⟨#[]⟩, .bool false, .string ⟨#[]⟩, .int .i64 0, .int .i64 0] 58)).alloc (.cells #[.bool false, .string ⟨#[]⟩, .bool false, .string ⟨#[]⟩, .int .i64 0, .int .i64 0] 58)) (w3.setCell ⟨u.heap.size + 1 + 1, 3, none⟩ (.string s2)) := hb3.setCell (p := ⟨u.heap.size + 1 + 1, 3, none⟩) (by simp) _
  have HFF : Hid _ := hf3
  have HBB : Hid _ := hB3
  have Hb3 : Hid _ := hB3
  have Hb3x : Hid _ := hb3
  clear hbx hb3 hf3 hB3
  go_wp2_with (first
    | (go_at_call 58; have _t := HT2t; refine (HT2.out _ (hr.below (two_box Hb3x.out).2.2)).mono ?_; clear HT2t _t; rintro e w4 ⟨rfl, hw⟩; subst w4)
    | (have _t := h0; refine wpList_load_row rfl 58 _ rfl (u.heap.size + 1 + 1) rfl 58 (Rc.cells ⟨false, ⟨#[]⟩, true, s2, first + Z, (V0 : Int)⟩) (0, 0) _ HFF.out Tryd.underlying58 rfl Tryd.info58 ?_)
    | (have _t := h0; refine wpList_store_row rfl 58 _ _ rfl u.heap.size (Rc.cells ⟨false, ⟨#[]⟩, true, s2, first + Z, (V0 : Int)⟩) rfl rfl 58 rz.cells (two_box HBB.out).1 Tryd.info58 rfl (rc_one _) ?_))
  refine bodyPost_ret (v := .tuple #[.agg (Rc.cells ⟨false, ⟨#[]⟩, true, s2, first + Z, (V0 : Int)⟩), .int .i64 j2, .int .i64 0]) ?_ rfl ⟨rfl, ?_⟩
  · exact results_rec (p := 4) (u := 5) (u2 := 6) (by rfl) _ _ u.heap.size ⟨false, ⟨#[]⟩, true, s2, first + Z, (V0 : Int)⟩ _ _ (by rfl) (by rfl) (by rfl) (setRow_heap _ _ _ _ _ _ (two_box HBB.out).1)
  · exact below_setRow (two_box HBB.out).2.2 (Nat.le_refl _) _
set_option maxRecDepth 100000 in
set_option maxHeartbeats 2000000 in
theorem rdec_fn (b off cap len : Nat) (first : Int) (u : World) (c : Nat) (hc0 : u.cell? ⟨b, off, none⟩ = some (.int .u8 (c : Int))) (h0 : 0 < len) (hl : len ≤ 6000) (hlc : len ≤ cap) (hcm : cap ≤ 9223372036854775807) (h3 : c ≤ 3) (f0 : 0 ≤ first) (f1 : first ≤ 1125899906842624) (hc1 : ¬ cap = 1) (V0 n0 : Nat) (hn0 : ((n0 : Int) == 0) = false) (hV : ¬ (100 : Int) ≤ (V0 : Int)) (HU0 : Hid (Calls Tryd.prog 56 #[.slice (some ⟨b, off + 1, none⟩) (len - 1) (cap - 1)] ((u.alloc (.cells #[.bool false, .string ⟨#[]⟩, .bool false, .string ⟨#[]⟩, .int .i64 0, .int .i64 0] 58)).alloc (.cells #[.bool false, .string ⟨#[]⟩, .bool false, .string ⟨#[]⟩, .int .i64 0, .int .i64 0] 58)) fun e w' => e = .returned (.tuple #[.int .u64 (V0 : Int), .int .i64 (n0 : Int)]) ∧ w' = ((u.alloc (.cells #[.bool false, .string ⟨#[]⟩, .bool false, .string ⟨#[]⟩, .int .i64 0, .int .i64 0] 58)).alloc (.cells #[.bool false, .string ⟨#[]⟩, .bool false, .string ⟨#[]⟩, .int .i64 0, .int .i64 0] 58)))) (hi : 1 + n0 ≤ len) (hc2 : ¬ cap = 1 + n0) (V1 n1 : Nat) (Z : Int) (hn1 : ((n1 : Int) == 0) = false) (hd0 : ¬ Z < -first) (hd : ¬ 1125899906842624 - first < Z) (HU1 : Hid (Calls Tryd.prog 56 #[.slice (some ⟨b, off + (1 + n0), none⟩) (len - (1 + n0)) (cap - (1 + n0))] ((u.alloc (.cells #[.bool false, .string ⟨#[]⟩, .bool false, .string ⟨#[]⟩, .int .i64 0, .int .i64 0] 58)).alloc (.cells #[.bool false, .string ⟨#[]⟩, .bool false, .string ⟨#[]⟩, .int .i64 0, .int .i64 0] 58)) fun e w' => e = .returned (.tuple #[.int .u64 (V1 : Int), .int .i64 (n1 : Int)]) ∧ w' = ((u.alloc (.cells #[.bool false, .string ⟨#[]⟩, .bool false, .string ⟨#[]⟩, .int .i64 0, .int .i64 0] 58)).alloc (.cells #[.bool false, .string ⟨#[]⟩, .bool false, .string ⟨#[]⟩, .int .i64 0, .int .i64 0] 58)))) (HZ : Hid (Calls Tryd.prog 57 #[.int .u64 (V1 : Int)] ((u.alloc (.cells #[.bool false, .string ⟨#[]⟩, .bool false, .string ⟨#[]⟩, .int .i64 0, .int .i64 0] 58)).alloc (.cells #[.bool false, .string ⟨#[]⟩, .bool false, .string ⟨#[]⟩, .int .i64 0, .int .i64 0] 58)) fun e w' => e = .returned (.int .i64 Z) ∧ w' = ((u.alloc (.cells #[.bool false, .string ⟨#[]⟩, .bool false, .string ⟨#[]⟩, .int .i64 0, .int .i64 0] 58)).alloc (.cells #[.bool false, .string ⟨#[]⟩, .bool false, .string ⟨#[]⟩, .int .i64 0, .int .i64 0] 58)))) (hi2 : 1 + n0 + n1 ≤ len) (l : List Nat) (hlen : l.length = len) (hr : Row u (some ⟨b, off, none⟩) l) (hw0 : IntKind.i64.wrap (V0 : Int) = (V0 : Int)) (hwT : IntKind.i64.wrap (first + Z) = first + Z) (hk0 : (bits .and .u8 (c : Int) 1 == 1) = false) (hv0 : (bits .and .u8 (c : Int) 2 == 2) = true) (s2 : ByteArray) (j2 : Int) (hj2 : j2 < 0) (HT2 : Hid (∀ w', Row w' (some ⟨b, off, none⟩) l → Calls Tryd.prog 58 #[.slice (some ⟨b, off, none⟩) len cap, .int .i64 (1 + (n0 : Int) + (n1 : Int))] w' fun e w2 => e = .returned (.tuple #[.string s2, .int .i64 j2]) ∧ w2 = w')) :
    Calls Tryd.prog 41 #[.slice (some ⟨b, off, none⟩) len cap, .int .i64 first] u fun e w' => e = .returned (.tuple #[.agg rz.cells, .int .i64 0, .int .i64 10]) ∧ Below u.heap.size u w' := by
  have hbw : b < u.heap.size := World.block_lt_of_cell? _ _ hc0
  have h0I : ((len : Int) == 0) = false := by rw [beq_eq_false_iff_ne]; omega
  have h0J : (0 : Int) < (len : Int) := by omega
  have h3I : ¬ (3 : Int) < (c : Int) := by omega
  have g0I : ¬ first < 0 := by omega
  have g1I : ¬ 1125899906842624 < first := by omega
  have hlI : (len : Int) ≤ 6000 := by omega
  have hlcI : (len : Int) ≤ (cap : Int) := by omega
  have hiI : 1 + (n0 : Int) ≤ (len : Int) := by omega
  have hicI : 1 + (n0 : Int) ≤ (cap : Int) := by omega
  have hi2I : 1 + (n0 : Int) + (n1 : Int) ≤ (len : Int) := by omega
  have hk1 : (bits .and .u8 (c : Int) 1 == 1) = false := hk0
  have hv1 : (bits .and .u8 (c : Int) 2 == 2) = true := hv0
  have tok1 : True := trivial
  go_enter Tryd.func41, Tryd.ntmps41
  go_wp2_with (first
    | (go_at_call 56; have _t := tok1; refine Calls.mono HU0.out ?_; clear tok1 _t; rintro e w1 ⟨rfl, hw⟩; subst w1)
    | (go_at_call 56; refine Calls.mono HU1.out ?_; rintro e w1 ⟨rfl, hw⟩; subst w1)
    | (go_at_call 57; refine Calls.mono HZ.out ?_; rintro e w1 ⟨rfl, hw⟩; subst w1))
  clear HU0 HU1 HZ
  refine wp_region_lat (fun y => Below ((u.alloc (.cells #[.bool false, .string ⟨#[]⟩, .bool false, .string ⟨#[]⟩, .int .i64 0, .int .i64 0] 58)).alloc (.cells #[.bool false, .string ⟨#[]⟩, .bool false, .string ⟨#[]⟩, .int .i64 0, .int .i64 0] 58)).heap.size ((u.alloc (.cells #[.bool false, .string ⟨#[]⟩, .bool false, .string ⟨#[]⟩, .int .i64 0, .int .i64 0] 58)).alloc (.cells #[.bool false, .string ⟨#[]⟩, .bool false, .string ⟨#[]⟩, .int .i64 0, .int .i64 0] 58)) y) 17 (by kernel_rfl) ((Below.refl _ _).drew) (fun hHeld => ?_)
  refine lat_take 0 (v := ?_) rfl (by kernel_rfl) (by kernel_rfl) (by kernel_rfl) (by kernel_rfl) (fun _ _ _ h => h) (by rfl) ?_ (by assumption) ?_
  rotate_left
  · (intro w hSw; obtain zc := two_cell hSw hc0; go_simp <;> with_reducible rfl)
  try simp only [Act.put, List.setIfInBounds_toArray, List.set_cons_zero, List.set_cons_succ]
  refine lat_take 1 (v := ?_) rfl (by kernel_rfl) (by kernel_rfl) (by kernel_rfl) (by kernel_rfl) (fun _ _ _ h => h) (by rfl) ?_ (by assumption) ?_
  rotate_left
  · (intro w hSw; obtain zc := two_cell hSw hc0; go_simp <;> with_reducible rfl)
  try simp only [Act.put, List.setIfInBounds_toArray, List.set_cons_zero, List.set_cons_succ]
  refine lat_take 2 (v := ?_) rfl (by kernel_rfl) (by kernel_rfl) (by kernel_rfl) (by kernel_rfl) (fun _ _ _ h => h) (by rfl) ?_ (by assumption) ?_
  rotate_left
  · (intro w hSw; obtain zc := two_cell hSw hc0; go_simp <;> with_reducible rfl)
  try simp only [Act.put, List.setIfInBounds_toArray, List.set_cons_zero, List.set_cons_succ]
  refine lat_take 3 (v := ?_) rfl (by kernel_rfl) (by kernel_rfl) (by kernel_rfl) (by kernel_rfl) (fun _ _ _ h => h) (by rfl) ?_ (by assumption) ?_
  rotate_left
  · (intro w hSw; obtain zc := two_cell hSw hc0; go_simp <;> with_reducible rfl)
  try simp only [Act.put, List.setIfInBounds_toArray, List.set_cons_zero, List.set_cons_succ]
  refine lat_take 4 (v := ?_) rfl (by kernel_rfl) (by kernel_rfl) (by kernel_rfl) (by kernel_rfl) (fun _ _ _ h => h) (by rfl) ?_ (by assumption) ?_
  rotate_left
  · (intro w hSw; obtain zc := two_cell hSw hc0; go_simp <;> with_reducible rfl)
  try simp only [Act.put, List.setIfInBounds_toArray, List.set_cons_zero, List.set_cons_succ]
  refine lat_take 5 (v := ?_) rfl (by kernel_rfl) (by kernel_rfl) (by kernel_rfl) (by kernel_rfl) (fun _ _ _ h => h) (by rfl) ?_ (by assumption) ?_
  rotate_left
  · (intro w hSw; obtain zc := two_cell hSw hc0; go_simp <;> with_reducible rfl)
  try simp only [Act.put, List.setIfInBounds_toArray, List.set_cons_zero, List.set_cons_succ]
  refine lat_take 6 (v := ?_) rfl (by kernel_rfl) (by kernel_rfl) (by kernel_rfl) (by kernel_rfl) (fun _ _ _ h => h) (by rfl) ?_ (by assumption) ?_
  rotate_left
  · (intro w hSw; obtain zc := two_cell hSw hc0; go_simp <;> with_reducible rfl)
  try simp only [Act.put, List.setIfInBounds_toArray, List.set_cons_zero, List.set_cons_succ]
  refine lat_take 7 (v := ?_) rfl (by kernel_rfl) (by kernel_rfl) (by kernel_rfl) (by kernel_rfl) (fun _ _ _ h => h) (by rfl) ?_ (by assumption) ?_
  rotate_left
  · (intro w hSw; obtain zc := two_cell hSw hc0; go_simp <;> with_reducible rfl)
  try simp only [Act.put, List.setIfInBounds_toArray, List.set_cons_zero, List.set_cons_succ]
  refine lat_take 8 (v := ?_) rfl (by kernel_rfl) (by kernel_rfl) (by kernel_rfl) (by kernel_rfl) (fun _ _ _ h => h) (by rfl) ?_ (by assumption) ?_
  rotate_left
  · (intro w hSw; obtain zc := two_cell hSw hc0; go_simp <;> with_reducible rfl)
  try simp only [Act.put, List.setIfInBounds_toArray, List.set_cons_zero, List.set_cons_succ]
  refine lat_take 9 (v := ?_) rfl (by kernel_rfl) (by kernel_rfl) (by kernel_rfl) (by kernel_rfl) (fun _ _ _ h => h) (by rfl) ?_ (by assumption) ?_
  rotate_left
  · (intro w hSw; obtain zc := two_cell hSw hc0; go_simp <;> with_reducible rfl)
  try simp only [Act.put, List.setIfInBounds_toArray, List.set_cons_zero, List.set_cons_succ]
  refine lat_take 10 (v := ?_) rfl (by kernel_rfl) (by kernel_rfl) (by kernel_rfl) (by kernel_rfl) (fun _ _ _ h => h) (by rfl) ?_ (by assumption) ?_
  rotate_left
  · (intro w hSw; obtain zc := two_cell hSw hc0; go_simp <;> with_reducible rfl)
  try simp only [Act.put, List.setIfInBounds_toArray, List.set_cons_zero, List.set_cons_succ]
  refine lat_take 11 (v := ?_) rfl (by kernel_rfl) (by kernel_rfl) (by kernel_rfl) (by kernel_rfl) (fun _ _ _ h => h) (by rfl) ?_ (by assumption) ?_
  rotate_left
  · (intro w hSw; obtain zc := two_cell hSw hc0; go_simp <;> with_reducible rfl)
  try simp only [Act.put, List.setIfInBounds_toArray, List.set_cons_zero, List.set_cons_succ]
  refine lat_take 12 (v := ?_) rfl (by kernel_rfl) (by kernel_rfl) (by kernel_rfl) (by kernel_rfl) (fun _ _ _ h => h) (by rfl) ?_ (by assumption) ?_
  rotate_left
  · (intro w hSw; obtain zc := two_cell hSw hc0; go_simp <;> with_reducible rfl)
  try simp only [Act.put, List.setIfInBounds_toArray, List.set_cons_zero, List.set_cons_succ]
  refine lat_take 13 (v := ?_) rfl (by kernel_rfl) (by kernel_rfl) (by kernel_rfl) (by kernel_rfl) (fun _ _ _ h => h) (by rfl) ?_ (by assumption) ?_
  rotate_left
  · (intro w hSw; obtain zc := two_cell hSw hc0; go_simp <;> with_reducible rfl)
  try simp only [Act.put, List.setIfInBounds_toArray, List.set_cons_zero, List.set_cons_succ]
  refine lat_take 14 (v := ?_) rfl (by kernel_rfl) (by kernel_rfl) (by kernel_rfl) (by kernel_rfl) (fun _ _ _ h => h) (by rfl) ?_ (by assumption) ?_
  rotate_left
  · (intro w hSw; obtain zc := two_cell hSw hc0; go_simp <;> with_reducible rfl)
  try simp only [Act.put, List.setIfInBounds_toArray, List.set_cons_zero, List.set_cons_succ]
  refine lat_take 15 (v := ?_) rfl (by kernel_rfl) (by kernel_rfl) (by kernel_rfl) (by kernel_rfl) (fun _ _ _ h => h) (by rfl) ?_ (by assumption) ?_
  rotate_left
  · (intro w hSw; obtain zc := two_cell hSw hc0; go_simp <;> with_reducible rfl)
  try simp only [Act.put, List.setIfInBounds_toArray, List.set_cons_zero, List.set_cons_succ]
  refine lat_one 16 rfl (by kernel_rfl) (by decide) (by rfl) (fun K hK => ?_)
  go_simp
  refine hK.out _ _ ?_ (fun hH2 => ?_)
  · first
      | exact ((Below.refl _ _).drew).alloc (Nat.le_refl _) _
      | exact ((Below.refl _ _).alloc (Nat.le_refl _) _).drew
  clear hK hHeld
  try simp only [Act.put, List.setIfInBounds_toArray, List.set_cons_zero, List.set_cons_succ]
  refine lat_last 17 rfl (by kernel_rfl) (by decide) (by kernel_rfl) (by rfl) (fun K hK => ?_)
  refine wp_store_row 58 _ _ rfl (u.heap.size + 1 + 1) (Rc.cells ⟨false, ⟨#[]⟩, true, ⟨#[]⟩, first + Z, (V0 : Int)⟩) rfl rfl 58 rz.cells (three_box u) Tryd.info58 rfl (rc_one _) ?_
  refine hK.out _ _ ?_
  clear hK
  try simp only [Act.put, List.setIfInBounds_toArray, List.set_cons_zero, List.set_cons_succ]
  generalize hw3 : World.setRow _ _ _ = w3
  have hbx : w3.heap[u.heap.size + 1 + 1]? = some (.cells (Rc.cells ⟨false, ⟨#[]⟩, true, ⟨#[]⟩, first + Z, (V0 : Int)⟩) 58 (0, 0)) := by rw [← hw3]; exact setRow_heap _ _ _ _ _ _ (three_box u)
  have hb3 : Below ((u.alloc (.cells #[.bool false, .string ⟨#[]⟩, .bool false, .string ⟨#[]⟩, .int .i64 0, .int .i64 0] 58)).alloc (.cells #[.bool false, .string ⟨#[]⟩, .bool false, .string ⟨#[]⟩, .int .i64 0, .int .i64 0] 58)).heap.size ((u.alloc (.cells #[.bool false, .string ⟨#[]⟩, .bool false, .string ⟨#[]⟩, .int .i64 0, .int .i64 0] 58)).alloc (.cells #[.bool false, .string ⟨#[]⟩, .bool false, .string ⟨#[]⟩, .int .i64 0, .int .i64 0] 58)) w3 := by rw [← hw3]; exact below_setRow hH2 (by simp) _
  clear hw3 hH2
  obtain ⟨e0, e1, e2, e3, e4, e5⟩ := box_cells' hbx
  simp only at e0 e1 e2 e3 e4 e5
  have ef := box_fr hbx
  have hz3 := World.block_lt_of_cell? _ _ e0
  simp only at hz3
  have HT2t : True := trivial
  have hf3 : (w3.setCell ⟨u.heap.size + 1 + 1, 3, none⟩ (.string s2)).heap[u.heap.size + 1 + 1]? = some (.cells (Rc.cells ⟨false, ⟨#[]⟩, true, s2, first + Z, (V0 : Int)⟩) 58 (0, 0)) := by rw [setCell_heap hbx]; rfl
  have hB3 : Below ((u.alloc (.cells #[.bool false, .string ⟨#[]⟩, .bool false, .string ⟨#[]⟩, .int .i64 0, .int .i64 0] 58)).alloc (.cells #[.bool false, .string ⟨#[]⟩, .bool false, .string ⟨#[]⟩, .int .i64 0, .int .i64 0] 58)).heap.size ((u.alloc (.cells #[.bool false, .string ⟨#[]⟩, .bool false, .string ⟨#[]⟩, .int .i64 0, .int .i64 0] 58)).alloc (.cells #[.bool false, .string ⟨#[]⟩, .bool false, .string ⟨#[]⟩, .int .i64 0, .int .i64 0] 58)) (w3.setCell ⟨u.heap.size + 1 + 1, 3, none⟩ (.string s2)) := hb3.setCell (p := ⟨u.heap.size + 1 + 1, 3, none⟩) (by simp) _
  have HFF : Hid _ := hf3
  have HBB : Hid _ := hB3
  have Hb3 : Hid _ := hB3
  have Hb3x : Hid _ := hb3
  clear hbx hb3 hf3 hB3
  go_wp2_with (first
    | (go_at_call 58; have _t := HT2t; refine (HT2.out _ (hr.below (two_box Hb3x.out).2.2)).mono ?_; clear HT2t _t; rintro e w4 ⟨rfl, hw⟩; subst w4)
    | (have _t := h0; refine wpList_load_row rfl 58 _ rfl (u.heap.size + 1) rfl 58 rz.cells (0, 0) _ (two_box HBB.out).2.1 Tryd.underlying58 rfl Tryd.info58 ?_)
    | (have _t := h0; refine wpList_store_row rfl 58 _ _ rfl u.heap.size rz.cells rfl rfl 58 rz.cells (two_box HBB.out).1 Tryd.info58 rfl (rc_one _) ?_))
  refine bodyPost_ret (v := .tuple #[.agg rz.cells, .int .i64 0, .int .i64 10]) ?_ rfl ⟨rfl, ?_⟩
  · exact results_rec (p := 4) (u := 5) (u2 := 6) (by rfl) _ _ u.heap.size rz _ _ (by rfl) (by rfl) (by rfl) (setRow_heap _ _ _ _ _ _ (two_box HBB.out).1)
  · exact below_setRow (two_box HBB.out).2.2 (Nat.le_refl _) _
set_option maxRecDepth 100000 in
set_option maxHeartbeats 2000000 in
theorem rdec_tt (b off cap len : Nat) (first : Int) (u : World) (c : Nat) (hc0 : u.cell? ⟨b, off, none⟩ = some (.int .u8 (c : Int))) (h0 : 0 < len) (hl : len ≤ 6000) (hlc : len ≤ cap) (hcm : cap ≤ 9223372036854775807) (h3 : c ≤ 3) (f0 : 0 ≤ first) (f1 : first ≤ 1125899906842624) (hc1 : ¬ cap = 1) (V0 n0 : Nat) (hn0 : ((n0 : Int) == 0) = false) (hV : ¬ (100 : Int) ≤ (V0 : Int)) (HU0 : Hid (Calls Tryd.prog 56 #[.slice (some ⟨b, off + 1, none⟩) (len - 1) (cap - 1)] ((u.alloc (.cells #[.bool false, .string ⟨#[]⟩, .bool false, .string ⟨#[]⟩, .int .i64 0, .int .i64 0] 58)).alloc (.cells #[.bool false, .string ⟨#[]⟩, .bool false, .string ⟨#[]⟩, .int .i64 0, .int .i64 0] 58)) fun e w' => e = .returned (.tuple #[.int .u64 (V0 : Int), .int .i64 (n0 : Int)]) ∧ w' = ((u.alloc (.cells #[.bool false, .string ⟨#[]⟩, .bool false, .string ⟨#[]⟩, .int .i64 0, .int .i64 0] 58)).alloc (.cells #[.bool false, .string ⟨#[]⟩, .bool false, .string ⟨#[]⟩, .int .i64 0, .int .i64 0] 58)))) (hi : 1 + n0 ≤ len) (hc2 : ¬ cap = 1 + n0) (V1 n1 : Nat) (Z : Int) (hn1 : ((n1 : Int) == 0) = false) (hd0 : ¬ Z < -first) (hd : ¬ 1125899906842624 - first < Z) (HU1 : Hid (Calls Tryd.prog 56 #[.slice (some ⟨b, off + (1 + n0), none⟩) (len - (1 + n0)) (cap - (1 + n0))] ((u.alloc (.cells #[.bool false, .string ⟨#[]⟩, .bool false, .string ⟨#[]⟩, .int .i64 0, .int .i64 0] 58)).alloc (.cells #[.bool false, .string ⟨#[]⟩, .bool false, .string ⟨#[]⟩, .int .i64 0, .int .i64 0] 58)) fun e w' => e = .returned (.tuple #[.int .u64 (V1 : Int), .int .i64 (n1 : Int)]) ∧ w' = ((u.alloc (.cells #[.bool false, .string ⟨#[]⟩, .bool false, .string ⟨#[]⟩, .int .i64 0, .int .i64 0] 58)).alloc (.cells #[.bool false, .string ⟨#[]⟩, .bool false, .string ⟨#[]⟩, .int .i64 0, .int .i64 0] 58)))) (HZ : Hid (Calls Tryd.prog 57 #[.int .u64 (V1 : Int)] ((u.alloc (.cells #[.bool false, .string ⟨#[]⟩, .bool false, .string ⟨#[]⟩, .int .i64 0, .int .i64 0] 58)).alloc (.cells #[.bool false, .string ⟨#[]⟩, .bool false, .string ⟨#[]⟩, .int .i64 0, .int .i64 0] 58)) fun e w' => e = .returned (.int .i64 Z) ∧ w' = ((u.alloc (.cells #[.bool false, .string ⟨#[]⟩, .bool false, .string ⟨#[]⟩, .int .i64 0, .int .i64 0] 58)).alloc (.cells #[.bool false, .string ⟨#[]⟩, .bool false, .string ⟨#[]⟩, .int .i64 0, .int .i64 0] 58)))) (hi2 : 1 + n0 + n1 ≤ len) (l : List Nat) (hlen : l.length = len) (hr : Row u (some ⟨b, off, none⟩) l) (hw0 : IntKind.i64.wrap (V0 : Int) = (V0 : Int)) (hwT : IntKind.i64.wrap (first + Z) = first + Z) (hk0 : (bits .and .u8 (c : Int) 1 == 1) = true) (hv0 : (bits .and .u8 (c : Int) 2 == 2) = true) (s1 s2 : ByteArray) (j1 j2 : Int) (hj1 : 0 ≤ j1) (hj2 : 0 ≤ j2) (HT1 : Hid (∀ w', Row w' (some ⟨b, off, none⟩) l → Calls Tryd.prog 58 #[.slice (some ⟨b, off, none⟩) len cap, .int .i64 (1 + (n0 : Int) + (n1 : Int))] w' fun e w2 => e = .returned (.tuple #[.string s1, .int .i64 j1]) ∧ w2 = w')) (HT2 : Hid (∀ w', Row w' (some ⟨b, off, none⟩) l → Calls Tryd.prog 58 #[.slice (some ⟨b, off, none⟩) len cap, .int .i64 j1] w' fun e w2 => e = .returned (.tuple #[.string s2, .int .i64 j2]) ∧ w2 = w')) :
    Calls Tryd.prog 41 #[.slice (some ⟨b, off, none⟩) len cap, .int .i64 first] u fun e w' => e = .returned (.tuple #[.agg (Rc.cells ⟨true, s1, true, s2, first + Z, (V0 : Int)⟩), .int .i64 j2, .int .i64 0]) ∧ Below u.heap.size u w' := by
  have hbw : b < u.heap.size := World.block_lt_of_cell? _ _ hc0
  have h0I : ((len : Int) == 0) = false := by rw [beq_eq_false_iff_ne]; omega
  have h0J : (0 : Int) < (len : Int) := by omega
  have h3I : ¬ (3 : Int) < (c : Int) := by omega
  have g0I : ¬ first < 0 := by omega
  have g1I : ¬ 1125899906842624 < first := by omega
  have hlI : (len : Int) ≤ 6000 := by omega
  have hlcI : (len : Int) ≤ (cap : Int) := by omega
  have hiI : 1 + (n0 : Int) ≤ (len : Int) := by omega
  have hicI : 1 + (n0 : Int) ≤ (cap : Int) := by omega
  have hi2I : 1 + (n0 : Int) + (n1 : Int) ≤ (len : Int) := by omega
  have hk1 : (bits .and .u8 (c : Int) 1 == 1) = true := hk0
  have hv1 : (bits .and .u8 (c : Int) 2 == 2) = true := hv0
  have tok1 : True := trivial
  go_enter Tryd.func41, Tryd.ntmps41
  go_wp2_with (first
    | (go_at_call 56; have _t := tok1; refine Calls.mono HU0.out ?_; clear tok1 _t; rintro e w1 ⟨rfl, hw⟩; subst w1)
    | (go_at_call 56; refine Calls.mono HU1.out ?_; rintro e w1 ⟨rfl, hw⟩; subst w1)
    | (go_at_call 57; refine Calls.mono HZ.out ?_; rintro e w1 ⟨rfl, hw⟩; subst w1))
  clear HU0 HU1 HZ
  refine wp_region_lat (fun y => Below ((u.alloc (.cells #[.bool false, .string ⟨#[]⟩, .bool false, .string ⟨#[]⟩, .int .i64 0, .int .i64 0] 58)).alloc (.cells #[.bool false, .string ⟨#[]⟩, .bool false, .string ⟨#[]⟩, .int .i64 0, .int .i64 0] 58)).heap.size ((u.alloc (.cells #[.bool false, .string ⟨#[]⟩, .bool false, .string ⟨#[]⟩, .int .i64 0, .int .i64 0] 58)).alloc (.cells #[.bool false, .string ⟨#[]⟩, .bool false, .string ⟨#[]⟩, .int .i64 0, .int .i64 0] 58)) y) 17 (by kernel_rfl) ((Below.refl _ _).drew) (fun hHeld => ?_)
  refine lat_take 0 (v := ?_) rfl (by kernel_rfl) (by kernel_rfl) (by kernel_rfl) (by kernel_rfl) (fun _ _ _ h => h) (by rfl) ?_ (by assumption) ?_
  rotate_left
  · (intro w hSw; obtain zc := two_cell hSw hc0; go_simp <;> with_reducible rfl)
  try simp only [Act.put, List.setIfInBounds_toArray, List.set_cons_zero, List.set_cons_succ]
  refine lat_take 1 (v := ?_) rfl (by kernel_rfl) (by kernel_rfl) (by kernel_rfl) (by kernel_rfl) (fun _ _ _ h => h) (by rfl) ?_ (by assumption) ?_
  rotate_left
  · (intro w hSw; obtain zc := two_cell hSw hc0; go_simp <;> with_reducible rfl)
  try simp only [Act.put, List.setIfInBounds_toArray, List.set_cons_zero, List.set_cons_succ]
  refine lat_take 2 (v := ?_) rfl (by kernel_rfl) (by kernel_rfl) (by kernel_rfl) (by kernel_rfl) (fun _ _ _ h => h) (by rfl) ?_ (by assumption) ?_
  rotate_left
  · (intro w hSw; obtain zc := two_cell hSw hc0; go_simp <;> with_reducible rfl)
  try simp only [Act.put, List.setIfInBounds_toArray, List.set_cons_zero, List.set_cons_succ]
  refine lat_take 3 (v := ?_) rfl (by kernel_rfl) (by kernel_rfl) (by kernel_rfl) (by kernel_rfl) (fun _ _ _ h => h) (by rfl) ?_ (by assumption) ?_
  rotate_left
  · (intro w hSw; obtain zc := two_cell hSw hc0; go_simp <;> with_reducible rfl)
  try simp only [Act.put, List.setIfInBounds_toArray, List.set_cons_zero, List.set_cons_succ]
  refine lat_take 4 (v := ?_) rfl (by kernel_rfl) (by kernel_rfl) (by kernel_rfl) (by kernel_rfl) (fun _ _ _ h => h) (by rfl) ?_ (by assumption) ?_
  rotate_left
  · (intro w hSw; obtain zc := two_cell hSw hc0; go_simp <;> with_reducible rfl)
  try simp only [Act.put, List.setIfInBounds_toArray, List.set_cons_zero, List.set_cons_succ]
  refine lat_take 5 (v := ?_) rfl (by kernel_rfl) (by kernel_rfl) (by kernel_rfl) (by kernel_rfl) (fun _ _ _ h => h) (by rfl) ?_ (by assumption) ?_
  rotate_left
  · (intro w hSw; obtain zc := two_cell hSw hc0; go_simp <;> with_reducible rfl)
  try simp only [Act.put, List.setIfInBounds_toArray, List.set_cons_zero, List.set_cons_succ]
  refine lat_take 6 (v := ?_) rfl (by kernel_rfl) (by kernel_rfl) (by kernel_rfl) (by kernel_rfl) (fun _ _ _ h => h) (by rfl) ?_ (by assumption) ?_
  rotate_left
  · (intro w hSw; obtain zc := two_cell hSw hc0; go_simp <;> with_reducible rfl)
  try simp only [Act.put, List.setIfInBounds_toArray, List.set_cons_zero, List.set_cons_succ]
  refine lat_take 7 (v := ?_) rfl (by kernel_rfl) (by kernel_rfl) (by kernel_rfl) (by kernel_rfl) (fun _ _ _ h => h) (by rfl) ?_ (by assumption) ?_
  rotate_left
  · (intro w hSw; obtain zc := two_cell hSw hc0; go_simp <;> with_reducible rfl)
  try simp only [Act.put, List.setIfInBounds_toArray, List.set_cons_zero, List.set_cons_succ]
  refine lat_take 8 (v := ?_) rfl (by kernel_rfl) (by kernel_rfl) (by kernel_rfl) (by kernel_rfl) (fun _ _ _ h => h) (by rfl) ?_ (by assumption) ?_
  rotate_left
  · (intro w hSw; obtain zc := two_cell hSw hc0; go_simp <;> with_reducible rfl)
  try simp only [Act.put, List.setIfInBounds_toArray, List.set_cons_zero, List.set_cons_succ]
  refine lat_take 9 (v := ?_) rfl (by kernel_rfl) (by kernel_rfl) (by kernel_rfl) (by kernel_rfl) (fun _ _ _ h => h) (by rfl) ?_ (by assumption) ?_
  rotate_left
  · (intro w hSw; obtain zc := two_cell hSw hc0; go_simp <;> with_reducible rfl)
  try simp only [Act.put, List.setIfInBounds_toArray, List.set_cons_zero, List.set_cons_succ]
  refine lat_take 10 (v := ?_) rfl (by kernel_rfl) (by kernel_rfl) (by kernel_rfl) (by kernel_rfl) (fun _ _ _ h => h) (by rfl) ?_ (by assumption) ?_
  rotate_left
  · (intro w hSw; obtain zc := two_cell hSw hc0; go_simp <;> with_reducible rfl)
  try simp only [Act.put, List.setIfInBounds_toArray, List.set_cons_zero, List.set_cons_succ]
  refine lat_take 11 (v := ?_) rfl (by kernel_rfl) (by kernel_rfl) (by kernel_rfl) (by kernel_rfl) (fun _ _ _ h => h) (by rfl) ?_ (by assumption) ?_
  rotate_left
  · (intro w hSw; obtain zc := two_cell hSw hc0; go_simp <;> with_reducible rfl)
  try simp only [Act.put, List.setIfInBounds_toArray, List.set_cons_zero, List.set_cons_succ]
  refine lat_take 12 (v := ?_) rfl (by kernel_rfl) (by kernel_rfl) (by kernel_rfl) (by kernel_rfl) (fun _ _ _ h => h) (by rfl) ?_ (by assumption) ?_
  rotate_left
  · (intro w hSw; obtain zc := two_cell hSw hc0; go_simp <;> with_reducible rfl)
  try simp only [Act.put, List.setIfInBounds_toArray, List.set_cons_zero, List.set_cons_succ]
  refine lat_take 13 (v := ?_) rfl (by kernel_rfl) (by kernel_rfl) (by kernel_rfl) (by kernel_rfl) (fun _ _ _ h => h) (by rfl) ?_ (by assumption) ?_
  rotate_left
  · (intro w hSw; obtain zc := two_cell hSw hc0; go_simp <;> with_reducible rfl)
  try simp only [Act.put, List.setIfInBounds_toArray, List.set_cons_zero, List.set_cons_succ]
  refine lat_take 14 (v := ?_) rfl (by kernel_rfl) (by kernel_rfl) (by kernel_rfl) (by kernel_rfl) (fun _ _ _ h => h) (by rfl) ?_ (by assumption) ?_
  rotate_left
  · (intro w hSw; obtain zc := two_cell hSw hc0; go_simp <;> with_reducible rfl)
  try simp only [Act.put, List.setIfInBounds_toArray, List.set_cons_zero, List.set_cons_succ]
  refine lat_take 15 (v := ?_) rfl (by kernel_rfl) (by kernel_rfl) (by kernel_rfl) (by kernel_rfl) (fun _ _ _ h => h) (by rfl) ?_ (by assumption) ?_
  rotate_left
  · (intro w hSw; obtain zc := two_cell hSw hc0; go_simp <;> with_reducible rfl)
  try simp only [Act.put, List.setIfInBounds_toArray, List.set_cons_zero, List.set_cons_succ]
  refine lat_one 16 rfl (by kernel_rfl) (by decide) (by rfl) (fun K hK => ?_)
  go_simp
  refine hK.out _ _ ?_ (fun hH2 => ?_)
  · first
      | exact ((Below.refl _ _).drew).alloc (Nat.le_refl _) _
      | exact ((Below.refl _ _).alloc (Nat.le_refl _) _).drew
  clear hK hHeld
  try simp only [Act.put, List.setIfInBounds_toArray, List.set_cons_zero, List.set_cons_succ]
  refine lat_last 17 rfl (by kernel_rfl) (by decide) (by kernel_rfl) (by rfl) (fun K hK => ?_)
  refine wp_store_row 58 _ _ rfl (u.heap.size + 1 + 1) (Rc.cells ⟨true, ⟨#[]⟩, true, ⟨#[]⟩, first + Z, (V0 : Int)⟩) rfl rfl 58 rz.cells (three_box u) Tryd.info58 rfl (rc_one _) ?_
  refine hK.out _ _ ?_
  clear hK
  try simp only [Act.put, List.setIfInBounds_toArray, List.set_cons_zero, List.set_cons_succ]
  generalize hw3 : World.setRow _ _ _ = w3
  have hbx : w3.heap[u.heap.size + 1 + 1]? = some (.cells (Rc.cells ⟨true, ⟨#[]⟩, true, ⟨#[]⟩, first + Z, (V0 : Int)⟩) 58 (0, 0)) := by rw [← hw3]; exact setRow_heap _ _ _ _ _ _ (three_box u)
  have hb3 : Below ((u.alloc (.cells #[.bool false, .string ⟨#[]⟩, .bool false, .string ⟨#[]⟩, .int .i64 0, .int .i64 0] 58)).alloc (.cells #[.bool false, .string ⟨#[]⟩, .bool false, .string ⟨#[]⟩, .int .i64 0, .int .i64 0] 58)).heap.size ((u.alloc (.cells #[.bool false, .string ⟨#[]⟩, .bool false, .string ⟨#[]⟩, .int .i64 0, .int .i64 0] 58)).alloc (.cells #[.bool false, .string ⟨#[]⟩, .bool false, .string ⟨#[]⟩, .int .i64 0, .int .i64 0] 58)) w3 := by rw [← hw3]; exact below_setRow hH2 (by simp) _
  clear hw3 hH2
  obtain ⟨e0, e1, e2, e3, e4, e5⟩ := box_cells' hbx
  simp only at e0 e1 e2 e3 e4 e5
  have ef := box_fr hbx
  have hz3 := World.block_lt_of_cell? _ _ e0
  simp only at hz3
  have HT1t : True := trivial
  have hf1 : (w3.setCell ⟨u.heap.size + 1 + 1, 1, none⟩ (.string s1)).heap[u.heap.size + 1 + 1]? = some (.cells (Rc.cells ⟨true, s1, true, ⟨#[]⟩, first + Z, (V0 : Int)⟩) 58 (0, 0)) := by rw [setCell_heap hbx]; rfl
  have hB1 : Below ((u.alloc (.cells #[.bool false, .string ⟨#[]⟩, .bool false, .string ⟨#[]⟩, .int .i64 0, .int .i64 0] 58)).alloc (.cells #[.bool false, .string ⟨#[]⟩, .bool false, .string ⟨#[]⟩, .int .i64 0, .int .i64 0] 58)).heap.size ((u.alloc (.cells #[.bool false, .string ⟨#[]⟩, .bool false, .string ⟨#[]⟩, .int .i64 0, .int .i64 0] 58)).alloc (.cells #[.bool false, .string ⟨#[]⟩, .bool false, .string ⟨#[]⟩, .int .i64 0, .int .i64 0] 58)) (w3.setCell ⟨u.heap.size + 1 + 1, 1, none⟩ (.string s1)) := hb3.setCell (p := ⟨u.heap.size + 1 + 1, 1, none⟩) (by simp) _
  have HT2t : True := trivial
  have hf3 : ((w3.setCell ⟨u.heap.size + 1 + 1, 1, none⟩ (.string s1)).setCell ⟨u.heap.size + 1 + 1, 3, none⟩ (.string s2)).heap[u.heap.size + 1 + 1]? = some (.cells (Rc.cells ⟨true, s1, true, s2, first + Z, (V0 : Int)⟩) 58 (0, 0)) := by rw [setCell_heap hf1]; rfl
  have hB3 : Below ((u.alloc (.cells #[.bool false, .string ⟨#[]⟩, .bool false, .string ⟨#[]⟩, .int .i64 0, .int .i64 0] 58)).alloc (.cells #[.bool false, .string ⟨#[]⟩, .bool false, .string ⟨#[]⟩, .int .i64 0, .int .i64 0] 58)).heap.size ((u.alloc (.cells #[.bool false, .string ⟨#[]⟩, .bool false, .string ⟨#[]⟩, .int .i64 0, .int .i64 0] 58)).alloc (.cells #[.bool false, .string ⟨#[]⟩, .bool false, .string ⟨#[]⟩, .int .i64 0, .int .i64 0] 58)) ((w3.setCell ⟨u.heap.size + 1 + 1, 1, none⟩ (.string s1)).setCell ⟨u.heap.size + 1 + 1, 3, none⟩ (.string s2)) := hB1.setCell (p := ⟨u.heap.size + 1 + 1, 3, none⟩) (by simp) _
  have HFF : Hid _ := hf3
  have HBB : Hid _ := hB3
  have Hb1 : Hid _ := hB1
  have Hb3 : Hid _ := hB3
  have Hb3x : Hid _ := hb3
  clear hbx hb3 hf1 hB1 hf3 hB3
  go_wp2_with (first
    | (go_at_call 58; have _t := HT1t; refine (HT1.out _ (hr.below (two_box Hb3x.out).2.2)).mono ?_; clear HT1t _t; rintro e w4 ⟨rfl, hw⟩; subst w4)
    | (go_at_call 58; have _t := HT2t; refine (HT2.out _ (hr.below (two_box Hb1.out).2.2)).mono ?_; clear HT2t _t; rintro e w4 ⟨rfl, hw⟩; subst w4)
    | (have _t := h0; refine wpList_load_row rfl 58 _ rfl (u.heap.size + 1 + 1) rfl 58 (Rc.cells ⟨true, s1, true, s2, first + Z, (V0 : Int)⟩) (0, 0) _ HFF.out Tryd.underlying58 rfl Tryd.info58 ?_)
    | (have _t := h0; refine wpList_store_row rfl 58 _ _ rfl u.heap.size (Rc.cells ⟨true, s1, true, s2, first + Z, (V0 : Int)⟩) rfl rfl 58 rz.cells (two_box HBB.out).1 Tryd.info58 rfl (rc_one _) ?_))
  refine bodyPost_ret (v := .tuple #[.agg (Rc.cells ⟨true, s1, true, s2, first + Z, (V0 : Int)⟩), .int .i64 j2, .int .i64 0]) ?_ rfl ⟨rfl, ?_⟩
  · exact results_rec (p := 4) (u := 5) (u2 := 6) (by rfl) _ _ u.heap.size ⟨true, s1, true, s2, first + Z, (V0 : Int)⟩ _ _ (by rfl) (by rfl) (by rfl) (setRow_heap _ _ _ _ _ _ (two_box HBB.out).1)
  · exact below_setRow (two_box HBB.out).2.2 (Nat.le_refl _) _
set_option maxRecDepth 100000 in
set_option maxHeartbeats 2000000 in
theorem rdec_ttn (b off cap len : Nat) (first : Int) (u : World) (c : Nat) (hc0 : u.cell? ⟨b, off, none⟩ = some (.int .u8 (c : Int))) (h0 : 0 < len) (hl : len ≤ 6000) (hlc : len ≤ cap) (hcm : cap ≤ 9223372036854775807) (h3 : c ≤ 3) (f0 : 0 ≤ first) (f1 : first ≤ 1125899906842624) (hc1 : ¬ cap = 1) (V0 n0 : Nat) (hn0 : ((n0 : Int) == 0) = false) (hV : ¬ (100 : Int) ≤ (V0 : Int)) (HU0 : Hid (Calls Tryd.prog 56 #[.slice (some ⟨b, off + 1, none⟩) (len - 1) (cap - 1)] ((u.alloc (.cells #[.bool false, .string ⟨#[]⟩, .bool false, .string ⟨#[]⟩, .int .i64 0, .int .i64 0] 58)).alloc (.cells #[.bool false, .string ⟨#[]⟩, .bool false, .string ⟨#[]⟩, .int .i64 0, .int .i64 0] 58)) fun e w' => e = .returned (.tuple #[.int .u64 (V0 : Int), .int .i64 (n0 : Int)]) ∧ w' = ((u.alloc (.cells #[.bool false, .string ⟨#[]⟩, .bool false, .string ⟨#[]⟩, .int .i64 0, .int .i64 0] 58)).alloc (.cells #[.bool false, .string ⟨#[]⟩, .bool false, .string ⟨#[]⟩, .int .i64 0, .int .i64 0] 58)))) (hi : 1 + n0 ≤ len) (hc2 : ¬ cap = 1 + n0) (V1 n1 : Nat) (Z : Int) (hn1 : ((n1 : Int) == 0) = false) (hd0 : ¬ Z < -first) (hd : ¬ 1125899906842624 - first < Z) (HU1 : Hid (Calls Tryd.prog 56 #[.slice (some ⟨b, off + (1 + n0), none⟩) (len - (1 + n0)) (cap - (1 + n0))] ((u.alloc (.cells #[.bool false, .string ⟨#[]⟩, .bool false, .string ⟨#[]⟩, .int .i64 0, .int .i64 0] 58)).alloc (.cells #[.bool false, .string ⟨#[]⟩, .bool false, .string ⟨#[]⟩, .int .i64 0, .int .i64 0] 58)) fun e w' => e = .returned (.tuple #[.int .u64 (V1 : Int), .int .i64 (n1 : Int)]) ∧ w' = ((u.alloc (.cells #[.bool false, .string ⟨#[]⟩, .bool false, .string ⟨#[]⟩, .int .i64 0, .int .i64 0] 58)).alloc (.cells #[.bool false, .string ⟨#[]⟩, .bool false, .string ⟨#[]⟩, .int .i64 0, .int .i64 0] 58)))) (HZ : Hid (Calls Tryd.prog 57 #[.int .u64 (V1 : Int)] ((u.alloc (.cells #[.bool false, .string ⟨#[]⟩, .bool false, .string ⟨#[]⟩, .int .i64 0, .int .i64 0] 58)).alloc (.cells #[.bool false, .string ⟨#[]⟩, .bool false, .string ⟨#[]⟩, .int .i64 0, .int .i64 0] 58)) fun e w' => e = .returned (.int .i64 Z) ∧ w' = ((u.alloc (.cells #[.bool false, .string ⟨#[]⟩, .bool false, .string ⟨#[]⟩, .int .i64 0, .int .i64 0] 58)).alloc (.cells #[.bool false, .string ⟨#[]⟩, .bool false, .string ⟨#[]⟩, .int .i64 0, .int .i64 0] 58)))) (hi2 : 1 + n0 + n1 ≤ len) (l : List Nat) (hlen : l.length = len) (hr : Row u (some ⟨b, off, none⟩) l) (hw0 : IntKind.i64.wrap (V0 : Int) = (V0 : Int)) (hwT : IntKind.i64.wrap (first + Z) = first + Z) (hk0 : (bits .and .u8 (c : Int) 1 == 1) = true) (hv0 : (bits .and .u8 (c : Int) 2 == 2) = true) (s1 s2 : ByteArray) (j1 j2 : Int) (hj1 : 0 ≤ j1) (hj2 : j2 < 0) (HT1 : Hid (∀ w', Row w' (some ⟨b, off, none⟩) l → Calls Tryd.prog 58 #[.slice (some ⟨b, off, none⟩) len cap, .int .i64 (1 + (n0 : Int) + (n1 : Int))] w' fun e w2 => e = .returned (.tuple #[.string s1, .int .i64 j1]) ∧ w2 = w')) (HT2 : Hid (∀ w', Row w' (some ⟨b, off, none⟩) l → Calls Tryd.prog 58 #[.slice (some ⟨b, off, none⟩) len cap, .int .i64 j1] w' fun e w2 => e = .returned (.tuple #[.string s2, .int .i64 j2]) ∧ w2 = w')) :
    Calls Tryd.prog 41 #[.slice (some ⟨b, off, none⟩) len cap, .int .i64 first] u fun e w' => e = .returned (.tuple #[.agg rz.cells, .int .i64 0, .int .i64 10]) ∧ Below u.heap.size u w' := by
  have hbw : b < u.heap.size := World.block_lt_of_cell? _ _ hc0
  have h0I : ((len : Int) == 0) = false := by rw [beq_eq_false_iff_ne]; omega
  have h0J : (0 : Int) < (len : Int) := by omega
  have h3I : ¬ (3 : Int) < (c : Int) := by omega
  have g0I : ¬ first < 0 := by omega
  have g1I : ¬ 1125899906842624 < first := by omega
  have hlI : (len : Int) ≤ 6000 := by omega
  have hlcI : (len : Int) ≤ (cap : Int) := by omega
  have hiI : 1 + (n0 : Int) ≤ (len : Int) := by omega
  have hicI : 1 + (n0 : Int) ≤ (cap : Int) := by omega
  have hi2I : 1 + (n0 : Int) + (n1 : Int) ≤ (len : Int) := by omega
  have hk1 : (bits .and .u8 (c : Int) 1 == 1) = true := hk0
  have hv1 : (bits .and .u8 (c : Int) 2 == 2) = true := hv0
  have tok1 : True := trivial
  go_enter Tryd.func41, Tryd.ntmps41
  go_wp2_with (first
    | (go_at_call 56; have _t := tok1; refine Calls.mono HU0.out ?_; clear tok1 _t; rintro e w1 ⟨rfl, hw⟩; subst w1)
    | (go_at_call 56; refine Calls.mono HU1.out ?_; rintro e w1 ⟨rfl, hw⟩; subst w1)
    | (go_at_call 57; refine Calls.mono HZ.out ?_; rintro e w1 ⟨rfl, hw⟩; subst w1))
  clear HU0 HU1 HZ
  refine wp_region_lat (fun y => Below ((u.alloc (.cells #[.bool false, .string ⟨#[]⟩, .bool false, .string ⟨#[]⟩, .int .i64 0, .int .i64 0] 58)).alloc (.cells #[.bool false, .string ⟨#[]⟩, .bool false, .string ⟨#[]⟩, .int .i64 0, .int .i64 0] 58)).heap.size ((u.alloc (.cells #[.bool false, .string ⟨#[]⟩, .bool false, .string ⟨#[]⟩, .int .i64 0, .int .i64 0] 58)).alloc (.cells #[.bool false, .string ⟨#[]⟩, .bool false, .string ⟨#[]⟩, .int .i64 0, .int .i64 0] 58)) y) 17 (by kernel_rfl) ((Below.refl _ _).drew) (fun hHeld => ?_)
  refine lat_take 0 (v := ?_) rfl (by kernel_rfl) (by kernel_rfl) (by kernel_rfl) (by kernel_rfl) (fun _ _ _ h => h) (by rfl) ?_ (by assumption) ?_
  rotate_left
  · (intro w hSw; obtain zc := two_cell hSw hc0; go_simp <;> with_reducible rfl)
  try simp only [Act.put, List.setIfInBounds_toArray, List.set_cons_zero, List.set_cons_succ]
  refine lat_take 1 (v := ?_) rfl (by kernel_rfl) (by kernel_rfl) (by kernel_rfl) (by kernel_rfl) (fun _ _ _ h => h) (by rfl) ?_ (by assumption) ?_
  rotate_left
  · (intro w hSw; obtain zc := two_cell hSw hc0; go_simp <;> with_reducible rfl)
  try simp only [Act.put, List.setIfInBounds_toArray, List.set_cons_zero, List.set_cons_succ]
  refine lat_take 2 (v := ?_) rfl (by kernel_rfl) (by kernel_rfl) (by kernel_rfl) (by kernel_rfl) (fun _ _ _ h => h) (by rfl) ?_ (by assumption) ?_
  rotate_left
  · (intro w hSw; obtain zc := two_cell hSw hc0; go_simp <;> with_reducible rfl)
  try simp only [Act.put, List.setIfInBounds_toArray, List.set_cons_zero, List.set_cons_succ]
  refine lat_take 3 (v := ?_) rfl (by kernel_rfl) (by kernel_rfl) (by kernel_rfl) (by kernel_rfl) (fun _ _ _ h => h) (by rfl) ?_ (by assumption) ?_
  rotate_left
  · (intro w hSw; obtain zc := two_cell hSw hc0; go_simp <;> with_reducible rfl)
  try simp only [Act.put, List.setIfInBounds_toArray, List.set_cons_zero, List.set_cons_succ]
  refine lat_take 4 (v := ?_) rfl (by kernel_rfl) (by kernel_rfl) (by kernel_rfl) (by kernel_rfl) (fun _ _ _ h => h) (by rfl) ?_ (by assumption) ?_
  rotate_left
  · (intro w hSw; obtain zc := two_cell hSw hc0; go_simp <;> with_reducible rfl)
  try simp only [Act.put, List.setIfInBounds_toArray, List.set_cons_zero, List.set_cons_succ]
  refine lat_take 5 (v := ?_) rfl (by kernel_rfl) (by kernel_rfl) (by kernel_rfl) (by kernel_rfl) (fun _ _ _ h => h) (by rfl) ?_ (by assumption) ?_
  rotate_left
  · (intro w hSw; obtain zc := two_cell hSw hc0; go_simp <;> with_reducible rfl)
  try simp only [Act.put, List.setIfInBounds_toArray, List.set_cons_zero, List.set_cons_succ]
  refine lat_take 6 (v := ?_) rfl (by kernel_rfl) (by kernel_rfl) (by kernel_rfl) (by kernel_rfl) (fun _ _ _ h => h) (by rfl) ?_ (by assumption) ?_
  rotate_left
  · (intro w hSw; obtain zc := two_cell hSw hc0; go_simp <;> with_reducible rfl)
  try simp only [Act.put, List.setIfInBounds_toArray, List.set_cons_zero, List.set_cons_succ]
  refine lat_take 7 (v := ?_) rfl (by kernel_rfl) (by kernel_rfl) (by kernel_rfl) (by kernel_rfl) (fun _ _ _ h => h) (by rfl) ?_ (by assumption) ?_
  rotate_left
  · (intro w hSw; obtain zc := two_cell hSw hc0; go_simp <;> with_reducible rfl)
  try simp only [Act.put, List.setIfInBounds_toArray, List.set_cons_zero, List.set_cons_succ]
  refine lat_take 8 (v := ?_) rfl (by kernel_rfl) (by kernel_rfl) (by kernel_rfl) (by kernel_rfl) (fun _ _ _ h => h) (by rfl) ?_ (by assumption) ?_
  rotate_left
  · (intro w hSw; obtain zc := two_cell hSw hc0; go_simp <;> with_reducible rfl)
  try simp only [Act.put, List.setIfInBounds_toArray, List.set_cons_zero, List.set_cons_succ]
  refine lat_take 9 (v := ?_) rfl (by kernel_rfl) (by kernel_rfl) (by kernel_rfl) (by kernel_rfl) (fun _ _ _ h => h) (by rfl) ?_ (by assumption) ?_
  rotate_left
  · (intro w hSw; obtain zc := two_cell hSw hc0; go_simp <;> with_reducible rfl)
  try simp only [Act.put, List.setIfInBounds_toArray, List.set_cons_zero, List.set_cons_succ]
  refine lat_take 10 (v := ?_) rfl (by kernel_rfl) (by kernel_rfl) (by kernel_rfl) (by kernel_rfl) (fun _ _ _ h => h) (by rfl) ?_ (by assumption) ?_
  rotate_left
  · (intro w hSw; obtain zc := two_cell hSw hc0; go_simp <;> with_reducible rfl)
  try simp only [Act.put, List.setIfInBounds_toArray, List.set_cons_zero, List.set_cons_succ]
  refine lat_take 11 (v := ?_) rfl (by kernel_rfl) (by kernel_rfl) (by kernel_rfl) (by kernel_rfl) (fun _ _ _ h => h) (by rfl) ?_ (by assumption) ?_
  rotate_left
  · (intro w hSw; obtain zc := two_cell hSw hc0; go_simp <;> with_reducible rfl)
  try simp only [Act.put, List.setIfInBounds_toArray, List.set_cons_zero, List.set_cons_succ]
  refine lat_take 12 (v := ?_) rfl (by kernel_rfl) (by kernel_rfl) (by kernel_rfl) (by kernel_rfl) (fun _ _ _ h => h) (by rfl) ?_ (by assumption) ?_
  rotate_left
  · (intro w hSw; obtain zc := two_cell hSw hc0; go_simp <;> with_reducible rfl)
  try simp only [Act.put, List.setIfInBounds_toArray, List.set_cons_zero, List.set_cons_succ]
  refine lat_take 13 (v := ?_) rfl (by kernel_rfl) (by kernel_rfl) (by kernel_rfl) (by kernel_rfl) (fun _ _ _ h => h) (by rfl) ?_ (by assumption) ?_
  rotate_left
  · (intro w hSw; obtain zc := two_cell hSw hc0; go_simp <;> with_reducible rfl)
  try simp only [Act.put, List.setIfInBounds_toArray, List.set_cons_zero, List.set_cons_succ]
  refine lat_take 14 (v := ?_) rfl (by kernel_rfl) (by kernel_rfl) (by kernel_rfl) (by kernel_rfl) (fun _ _ _ h => h) (by rfl) ?_ (by assumption) ?_
  rotate_left
  · (intro w hSw; obtain zc := two_cell hSw hc0; go_simp <;> with_reducible rfl)
  try simp only [Act.put, List.setIfInBounds_toArray, List.set_cons_zero, List.set_cons_succ]
  refine lat_take 15 (v := ?_) rfl (by kernel_rfl) (by kernel_rfl) (by kernel_rfl) (by kernel_rfl) (fun _ _ _ h => h) (by rfl) ?_ (by assumption) ?_
  rotate_left
  · (intro w hSw; obtain zc := two_cell hSw hc0; go_simp <;> with_reducible rfl)
  try simp only [Act.put, List.setIfInBounds_toArray, List.set_cons_zero, List.set_cons_succ]
  refine lat_one 16 rfl (by kernel_rfl) (by decide) (by rfl) (fun K hK => ?_)
  go_simp
  refine hK.out _ _ ?_ (fun hH2 => ?_)
  · first
      | exact ((Below.refl _ _).drew).alloc (Nat.le_refl _) _
      | exact ((Below.refl _ _).alloc (Nat.le_refl _) _).drew
  clear hK hHeld
  try simp only [Act.put, List.setIfInBounds_toArray, List.set_cons_zero, List.set_cons_succ]
  refine lat_last 17 rfl (by kernel_rfl) (by decide) (by kernel_rfl) (by rfl) (fun K hK => ?_)
  refine wp_store_row 58 _ _ rfl (u.heap.size + 1 + 1) (Rc.cells ⟨true, ⟨#[]⟩, true, ⟨#[]⟩, first + Z, (V0 : Int)⟩) rfl rfl 58 rz.cells (three_box u) Tryd.info58 rfl (rc_one _) ?_
  refine hK.out _ _ ?_
  clear hK
  try simp only [Act.put, List.setIfInBounds_toArray, List.set_cons_zero, List.set_cons_succ]
  generalize hw3 : World.setRow _ _ _ = w3
  have hbx : w3.heap[u.heap.size + 1 + 1]? = some (.cells (Rc.cells ⟨true, ⟨#[]⟩, true, ⟨#[]⟩, first + Z, (V0 : Int)⟩) 58 (0, 0)) := by rw [← hw3]; exact setRow_heap _ _ _ _ _ _ (three_box u)
  have hb3 : Below ((u.alloc (.cells #[.bool false, .string ⟨#[]⟩, .bool false, .string ⟨#[]⟩, .int .i64 0, .int .i64 0] 58)).alloc (.cells #[.bool false, .string ⟨#[]⟩, .bool false, .string ⟨#[]⟩, .int .i64 0, .int .i64 0] 58)).heap.size ((u.alloc (.cells #[.bool false, .string ⟨#[]⟩, .bool false, .string ⟨#[]⟩, .int .i64 0, .int .i64 0] 58)).alloc (.cells #[.bool false, .string ⟨#[]⟩, .bool false, .string ⟨#[]⟩, .int .i64 0, .int .i64 0] 58)) w3 := by rw [← hw3]; exact below_setRow hH2 (by simp) _
  clear hw3 hH2
  obtain ⟨e0, e1, e2, e3, e4, e5⟩ := box_cells' hbx
  simp only at e0 e1 e2 e3 e4 e5
  have ef := box_fr hbx
  have hz3 := World.block_lt_of_cell? _ _ e0
  simp only at hz3
  have HT1t : True := trivial
  have hf1 : (w3.setCell ⟨u.heap.size + 1 + 1, 1, none⟩ (.string s1)).heap[u.heap.size + 1 + 1]? = some (.cells (Rc.cells ⟨true, s1, true, ⟨#[]⟩, first + Z, (V0 : Int)⟩) 58 (0, 0)) := by rw [setCell_heap hbx]; rfl
  have hB1 : Below ((u.alloc (.cells #[.bool false, .string ⟨#[]⟩, .bool false, .string ⟨#[]⟩, .int .i64 0, .int .i64 0] 58)).alloc (.cells #[.bool false, .string ⟨#[]⟩, .bool false, .string ⟨#[]⟩, .int .i64 0, .int .i64 0] 58)).heap.size ((u.alloc (.cells #[.bool false, .string ⟨#[]⟩, .bool false, .string ⟨#[]⟩, .int .i64 0, .int .i64 0] 58)).alloc (.cells #[.bool false, .string ⟨#[]⟩, .bool false, .string ⟨#[]⟩, .int .i64 0, .int .i64 0] 58)) (w3.setCell ⟨u.heap.size + 1 + 1, 1, none⟩ (.string s1)) := hb3.setCell (p := ⟨u.heap.size + 1 + 1, 1, none⟩) (by simp) _
  have HT2t : True := trivial
  have hf3 : ((w3.setCell ⟨u.heap.size + 1 + 1, 1, none⟩ (.string s1)).setCell ⟨u.heap.size + 1 + 1, 3, none⟩ (.string s2)).heap[u.heap.size + 1 + 1]? = some (.cells (Rc.cells ⟨true, s1, true, s2, first + Z, (V0 : Int)⟩) 58 (0, 0)) := by rw [setCell_heap hf1]; rfl
  have hB3 : Below ((u.alloc (.cells #[.bool false, .string ⟨#[]⟩, .bool false, .string ⟨#[]⟩, .int .i64 0, .int .i64 0] 58)).alloc (.cells #[.bool false, .string ⟨#[]⟩, .bool false, .string ⟨#[]⟩, .int .i64 0, .int .i64 0] 58)).heap.size ((u.alloc (.cells #[.bool false, .string ⟨#[]⟩, .bool false, .string ⟨#[]⟩, .int .i64 0, .int .i64 0] 58)).alloc (.cells #[.bool false, .string ⟨#[]⟩, .bool false, .string ⟨#[]⟩, .int .i64 0, .int .i64 0] 58)) ((w3.setCell ⟨u.heap.size + 1 + 1, 1, none⟩ (.string s1)).setCell ⟨u.heap.size + 1 + 1, 3, none⟩ (.string s2)) := hB1.setCell (p := ⟨u.heap.size + 1 + 1, 3, none⟩) (by simp) _
  have HFF : Hid _ := hf3
  have HBB : Hid _ := hB3
  have Hb1 : Hid _ := hB1
  have Hb3 : Hid _ := hB3
  have Hb3x : Hid _ := hb3
  clear hbx hb3 hf1 hB1 hf3 hB3
  go_wp2_with (first
    | (go_at_call 58; have _t := HT1t; refine (HT1.out _ (hr.below (two_box Hb3x.out).2.2)).mono ?_; clear HT1t _t; rintro e w4 ⟨rfl, hw⟩; subst w4)
    | (go_at_call 58; have _t := HT2t; refine (HT2.out _ (hr.below (two_box Hb1.out).2.2)).mono ?_; clear HT2t _t; rintro e w4 ⟨rfl, hw⟩; subst w4)
    | (have _t := h0; refine wpList_load_row rfl 58 _ rfl (u.heap.size + 1) rfl 58 rz.cells (0, 0) _ (two_box HBB.out).2.1 Tryd.underlying58 rfl Tryd.info58 ?_)
    | (have _t := h0; refine wpList_store_row rfl 58 _ _ rfl u.heap.size rz.cells rfl rfl 58 rz.cells (two_box HBB.out).1 Tryd.info58 rfl (rc_one _) ?_))
  refine bodyPost_ret (v := .tuple #[.agg rz.cells, .int .i64 0, .int .i64 10]) ?_ rfl ⟨rfl, ?_⟩
  · exact results_rec (p := 4) (u := 5) (u2 := 6) (by rfl) _ _ u.heap.size rz _ _ (by rfl) (by rfl) (by rfl) (setRow_heap _ _ _ _ _ _ (two_box HBB.out).1)
  · exact below_setRow (two_box HBB.out).2.2 (Nat.le_refl _) _
set_option maxRecDepth 100000 in
set_option maxHeartbeats 2000000 in
theorem rdec_tn2 (b off cap len : Nat) (first : Int) (u : World) (c : Nat) (hc0 : u.cell? ⟨b, off, none⟩ = some (.int .u8 (c : Int))) (h0 : 0 < len) (hl : len ≤ 6000) (hlc : len ≤ cap) (hcm : cap ≤ 9223372036854775807) (h3 : c ≤ 3) (f0 : 0 ≤ first) (f1 : first ≤ 1125899906842624) (hc1 : ¬ cap = 1) (V0 n0 : Nat) (hn0 : ((n0 : Int) == 0) = false) (hV : ¬ (100 : Int) ≤ (V0 : Int)) (HU0 : Hid (Calls Tryd.prog 56 #[.slice (some ⟨b, off + 1, none⟩) (len - 1) (cap - 1)] ((u.alloc (.cells #[.bool false, .string ⟨#[]⟩, .bool false, .string ⟨#[]⟩, .int .i64 0, .int .i64 0] 58)).alloc (.cells #[.bool false, .string ⟨#[]⟩, .bool false, .string ⟨#[]⟩, .int .i64 0, .int .i64 0] 58)) fun e w' => e = .returned (.tuple #[.int .u64 (V0 : Int), .int .i64 (n0 : Int)]) ∧ w' = ((u.alloc (.cells #[.bool false, .string ⟨#[]⟩, .bool false, .string ⟨#[]⟩, .int .i64 0, .int .i64 0] 58)).alloc (.cells #[.bool false, .string ⟨#[]⟩, .bool false, .string ⟨#[]⟩, .int .i64 0, .int .i64 0] 58)))) (hi : 1 + n0 ≤ len) (hc2 : ¬ cap = 1 + n0) (V1 n1 : Nat) (Z : Int) (hn1 : ((n1 : Int) == 0) = false) (hd0 : ¬ Z < -first) (hd : ¬ 1125899906842624 - first < Z) (HU1 : Hid (Calls Tryd.prog 56 #[.slice (some ⟨b, off + (1 + n0), none⟩) (len - (1 + n0)) (cap - (1 + n0))] ((u.alloc (.cells #[.bool false, .string ⟨#[]⟩, .bool false, .string ⟨#[]⟩, .int .i64 0, .int .i64 0] 58)).alloc (.cells #[.bool false, .string ⟨#[]⟩, .bool false, .string ⟨#[]⟩, .int .i64 0, .int .i64 0] 58)) fun e w' => e = .returned (.tuple #[.int .u64 (V1 : Int), .int .i64 (n1 : Int)]) ∧ w' = ((u.alloc (.cells #[.bool false, .string ⟨#[]⟩, .bool false, .string ⟨#[]⟩, .int .i64 0, .int .i64 0] 58)).alloc (.cells #[.bool false, .string ⟨#[]⟩, .bool false, .string ⟨#[]⟩, .int .i64 0, .int .i64 0] 58)))) (HZ : Hid (Calls Tryd.prog 57 #[.int .u64 (V1 : Int)] ((u.alloc (.cells #[.bool false, .string ⟨#[]⟩, .bool false, .string ⟨#[]⟩, .int .i64 0, .int .i64 0] 58)).alloc (.cells #[.bool false, .string ⟨#[]⟩, .bool false, .string ⟨#[]⟩, .int .i64 0, .int .i64 0] 58)) fun e w' => e = .returned (.int .i64 Z) ∧ w' = ((u.alloc (.cells #[.bool false, .string ⟨#[]⟩, .bool false, .string ⟨#[]⟩, .int .i64 0, .int .i64 0] 58)).alloc (.cells #[.bool false, .string ⟨#[]⟩, .bool false, .string ⟨#[]⟩, .int .i64 0, .int .i64 0] 58)))) (hi2 : 1 + n0 + n1 ≤ len) (l : List Nat) (hlen : l.length = len) (hr : Row u (some ⟨b, off, none⟩) l) (hw0 : IntKind.i64.wrap (V0 : Int) = (V0 : Int)) (hwT : IntKind.i64.wrap (first + Z) = first + Z) (hk0 : (bits .and .u8 (c : Int) 1 == 1) = true) (hv0 : (bits .and .u8 (c : Int) 2 == 2) = true) (s1 : ByteArray) (j1 : Int) (hj1 : j1 < 0) (HT1 : Hid (∀ w', Row w' (some ⟨b, off, none⟩) l → Calls Tryd.prog 58 #[.slice (some ⟨b, off, none⟩) len cap, .int .i64 (1 + (n0 : Int) + (n1 : Int))] w' fun e w2 => e = .returned (.tuple #[.string s1, .int .i64 j1]) ∧ w2 = w')) :
    Calls Tryd.prog 41 #[.slice (some ⟨b, off, none⟩) len cap, .int .i64 first] u fun e w' => e = .returned (.tuple #[.agg rz.cells, .int .i64 0, .int .i64 10]) ∧ Below u.heap.size u w' := by
  have hbw : b < u.heap.size := World.block_lt_of_cell? _ _ hc0
  have h0I : ((len : Int) == 0) = false := by rw [beq_eq_false_iff_ne]; omega
  have h0J : (0 : Int) < (len : Int) := by omega
  have h3I : ¬ (3 : Int) < (c : Int) := by omega
  have g0I : ¬ first < 0 := by omega
  have g1I : ¬ 1125899906842624 < first := by omega
  have hlI : (len : Int) ≤ 6000 := by omega
  have hlcI : (len : Int) ≤ (cap : Int) := by omega
  have hiI : 1 + (n0 : Int) ≤ (len : Int) := by omega
  have hicI : 1 + (n0 : Int) ≤ (cap : Int) := by omega
  have hi2I : 1 + (n0 : Int) + (n1 : Int) ≤ (len : Int) := by omega
  have hk1 : (bits .and .u8 (c : Int) 1 == 1) = true := hk0
  have hv1 : (bits .and .u8 (c : Int) 2 == 2) = true := hv0
  have tok1 : True := trivial
  go_enter Tryd.func41, Tryd.ntmps41
  go_wp2_with (first
    | (go_at_call 56; have _t := tok1; refine Calls.mono HU0.out ?_; clear tok1 _t; rintro e w1 ⟨rfl, hw⟩; subst w1)
    | (go_at_call 56; refine Calls.mono HU1.out ?_; rintro e w1 ⟨rfl, hw⟩; subst w1)
    | (go_at_call 57; refine Calls.mono HZ.out ?_; rintro e w1 ⟨rfl, hw⟩; subst w1))
  clear HU0 HU1 HZ
  refine wp_region_lat (fun y => Below ((u.alloc (.cells #[.bool false, .string ⟨#[]⟩, .bool false, .string ⟨#[]⟩, .int .i64 0, .int .i64 0] 58)).alloc (.cells #[.bool false, .string ⟨#[]⟩, .bool false, .string ⟨#[]⟩, .int .i64 0, .int .i64 0] 58)).heap.size ((u.alloc (.cells #[.bool false, .string ⟨#[]⟩, .bool false, .string ⟨#[]⟩, .int .i64 0, .int .i64 0] 58)).alloc (.cells #[.bool false, .string ⟨#[]⟩, .bool false, .string ⟨#[]⟩, .int .i64 0, .int .i64 0] 58)) y) 17 (by kernel_rfl) ((Below.refl _ _).drew) (fun hHeld => ?_)
  refine lat_take 0 (v := ?_) rfl (by kernel_rfl) (by kernel_rfl) (by kernel_rfl) (by kernel_rfl) (fun _ _ _ h => h) (by rfl) ?_ (by assumption) ?_
  rotate_left
  · (intro w hSw; obtain zc := two_cell hSw hc0; go_simp <;> with_reducible rfl)
  try simp only [Act.put, List.setIfInBounds_toArray, List.set_cons_zero, List.set_cons_succ]
  refine lat_take 1 (v := ?_) rfl (by kernel_rfl) (by kernel_rfl) (by kernel_rfl) (by kernel_rfl) (fun _ _ _ h => h) (by rfl) ?_ (by assumption) ?_
  rotate_left
  · (intro w hSw; obtain zc := two_cell hSw hc0; go_simp <;> with_reducible rfl)
  try simp only [Act.put, List.setIfInBounds_toArray, List.set_cons_zero, List.set_cons_succ]
  refine lat_take 2 (v := ?_) rfl (by kernel_rfl) (by kernel_rfl) (by kernel_rfl) (by kernel_rfl) (fun _ _ _ h => h) (by rfl) ?_ (by assumption) ?_
  rotate_left
  · (intro w hSw; obtain zc := two_cell hSw hc0; go_simp <;> with_reducible rfl)
  try simp only [Act.put, List.setIfInBounds_toArray, List.set_cons_zero, List.set_cons_succ]
  refine lat_take 3 (v := ?_) rfl (by kernel_rfl) (by kernel_rfl) (by kernel_rfl) (by kernel_rfl) (fun _ _ _ h => h) (by rfl) ?_ (by assumption) ?_
  rotate_left
  · (intro w hSw; obtain zc := two_cell hSw hc0; go_simp <;> with_reducible rfl)
  try simp only [Act.put, List.setIfInBounds_toArray, List.set_cons_zero, List.set_cons_succ]
  refine lat_take 4 (v := ?_) rfl (by kernel_rfl) (by kernel_rfl) (by kernel_rfl) (by kernel_rfl) (fun _ _ _ h => h) (by rfl) ?_ (by assumption) ?_
  rotate_left
  · (intro w hSw; obtain zc := two_cell hSw hc0; go_simp <;> with_reducible rfl)
  try simp only [Act.put, List.setIfInBounds_toArray, List.set_cons_zero, List.set_cons_succ]
  refine lat_take 5 (v := ?_) rfl (by kernel_rfl) (by kernel_rfl) (by kernel_rfl) (by kernel_rfl) (fun _ _ _ h => h) (by rfl) ?_ (by assumption) ?_
  rotate_left
  · (intro w hSw; obtain zc := two_cell hSw hc0; go_simp <;> with_reducible rfl)
  try simp only [Act.put, List.setIfInBounds_toArray, List.set_cons_zero, List.set_cons_succ]
  refine lat_take 6 (v := ?_) rfl (by kernel_rfl) (by kernel_rfl) (by kernel_rfl) (by kernel_rfl) (fun _ _ _ h => h) (by rfl) ?_ (by assumption) ?_
  rotate_left
  · (intro w hSw; obtain zc := two_cell hSw hc0; go_simp <;> with_reducible rfl)
  try simp only [Act.put, List.setIfInBounds_toArray, List.set_cons_zero, List.set_cons_succ]
  refine lat_take 7 (v := ?_) rfl (by kernel_rfl) (by kernel_rfl) (by kernel_rfl) (by kernel_rfl) (fun _ _ _ h => h) (by rfl) ?_ (by assumption) ?_
  rotate_left
  · (intro w hSw; obtain zc := two_cell hSw hc0; go_simp <;> with_reducible rfl)
  try simp only [Act.put, List.setIfInBounds_toArray, List.set_cons_zero, List.set_cons_succ]
  refine lat_take 8 (v := ?_) rfl (by kernel_rfl) (by kernel_rfl) (by kernel_rfl) (by kernel_rfl) (fun _ _ _ h => h) (by rfl) ?_ (by assumption) ?_
  rotate_left
  · (intro w hSw; obtain zc := two_cell hSw hc0; go_simp <;> with_reducible rfl)
  try simp only [Act.put, List.setIfInBounds_toArray, List.set_cons_zero, List.set_cons_succ]
  refine lat_take 9 (v := ?_) rfl (by kernel_rfl) (by kernel_rfl) (by kernel_rfl) (by kernel_rfl) (fun _ _ _ h => h) (by rfl) ?_ (by assumption) ?_
  rotate_left
  · (intro w hSw; obtain zc := two_cell hSw hc0; go_simp <;> with_reducible rfl)
  try simp only [Act.put, List.setIfInBounds_toArray, List.set_cons_zero, List.set_cons_succ]
  refine lat_take 10 (v := ?_) rfl (by kernel_rfl) (by kernel_rfl) (by kernel_rfl) (by kernel_rfl) (fun _ _ _ h => h) (by rfl) ?_ (by assumption) ?_
  rotate_left
  · (intro w hSw; obtain zc := two_cell hSw hc0; go_simp <;> with_reducible rfl)
  try simp only [Act.put, List.setIfInBounds_toArray, List.set_cons_zero, List.set_cons_succ]
  refine lat_take 11 (v := ?_) rfl (by kernel_rfl) (by kernel_rfl) (by kernel_rfl) (by kernel_rfl) (fun _ _ _ h => h) (by rfl) ?_ (by assumption) ?_
  rotate_left
  · (intro w hSw; obtain zc := two_cell hSw hc0; go_simp <;> with_reducible rfl)
  try simp only [Act.put, List.setIfInBounds_toArray, List.set_cons_zero, List.set_cons_succ]
  refine lat_take 12 (v := ?_) rfl (by kernel_rfl) (by kernel_rfl) (by kernel_rfl) (by kernel_rfl) (fun _ _ _ h => h) (by rfl) ?_ (by assumption) ?_
  rotate_left
  · (intro w hSw; obtain zc := two_cell hSw hc0; go_simp <;> with_reducible rfl)
  try simp only [Act.put, List.setIfInBounds_toArray, List.set_cons_zero, List.set_cons_succ]
  refine lat_take 13 (v := ?_) rfl (by kernel_rfl) (by kernel_rfl) (by kernel_rfl) (by kernel_rfl) (fun _ _ _ h => h) (by rfl) ?_ (by assumption) ?_
  rotate_left
  · (intro w hSw; obtain zc := two_cell hSw hc0; go_simp <;> with_reducible rfl)
  try simp only [Act.put, List.setIfInBounds_toArray, List.set_cons_zero, List.set_cons_succ]
  refine lat_take 14 (v := ?_) rfl (by kernel_rfl) (by kernel_rfl) (by kernel_rfl) (by kernel_rfl) (fun _ _ _ h => h) (by rfl) ?_ (by assumption) ?_
  rotate_left
  · (intro w hSw; obtain zc := two_cell hSw hc0; go_simp <;> with_reducible rfl)
  try simp only [Act.put, List.setIfInBounds_toArray, List.set_cons_zero, List.set_cons_succ]
  refine lat_take 15 (v := ?_) rfl (by kernel_rfl) (by kernel_rfl) (by kernel_rfl) (by kernel_rfl) (fun _ _ _ h => h) (by rfl) ?_ (by assumption) ?_
  rotate_left
  · (intro w hSw; obtain zc := two_cell hSw hc0; go_simp <;> with_reducible rfl)
  try simp only [Act.put, List.setIfInBounds_toArray, List.set_cons_zero, List.set_cons_succ]
  refine lat_one 16 rfl (by kernel_rfl) (by decide) (by rfl) (fun K hK => ?_)
  go_simp
  refine hK.out _ _ ?_ (fun hH2 => ?_)
  · first
      | exact ((Below.refl _ _).drew).alloc (Nat.le_refl _) _
      | exact ((Below.refl _ _).alloc (Nat.le_refl _) _).drew
  clear hK hHeld
  try simp only [Act.put, List.setIfInBounds_toArray, List.set_cons_zero, List.set_cons_succ]
  refine lat_last 17 rfl (by kernel_rfl) (by decide) (by kernel_rfl) (by rfl) (fun K hK => ?_)
  refine wp_store_row 58 _ _ rfl (u.heap.size + 1 + 1) (Rc.cells ⟨true, ⟨#[]⟩, true, ⟨#[]⟩, first + Z, (V0 : Int)⟩) rfl rfl 58 rz.cells (three_box u) Tryd.info58 rfl (rc_one _) ?_
  refine hK.out _ _ ?_
  clear hK
  try simp only [Act.put, List.setIfInBounds_toArray, List.set_cons_zero, List.set_cons_succ]
  generalize hw3 : World.setRow _ _ _ = w3
  have hbx : w3.heap[u.heap.size + 1 + 1]? = some (.cells (Rc.cells ⟨true, ⟨#[]⟩, true, ⟨#[]⟩, first + Z, (V0 : Int)⟩) 58 (0, 0)) := by rw [← hw3]; exact setRow_heap _ _ _ _ _ _ (three_box u)
  have hb3 : Below ((u.alloc (.cells #[.bool false, .string ⟨#[]⟩, .bool false, .string ⟨#[]⟩, .int .i64 0, .int .i64 0] 58)).alloc (.cells #[.bool false, .string ⟨#[]⟩, .bool false, .string ⟨#[]⟩, .int .i64 0, .int .i64 0] 58)).heap.size ((u.alloc (.cells #[.bool false, .string ⟨#[]⟩, .bool false, .string ⟨#[]⟩, .int .i64 0, .int .i64 0] 58)).alloc (.cells #[.bool false, .string ⟨#[]⟩, .bool false, .string ⟨#[]⟩, .int .i64 0, .int .i64 0] 58)) w3 := by rw [← hw3]; exact below_setRow hH2 (by simp) _
  clear hw3 hH2
  obtain ⟨e0, e1, e2, e3, e4, e5⟩ := box_cells' hbx
  simp only at e0 e1 e2 e3 e4 e5
  have ef := box_fr hbx
  have hz3 := World.block_lt_of_cell? _ _ e0
  simp only at hz3
  have HT1t : True := trivial
  have hf1 : (w3.setCell ⟨u.heap.size + 1 + 1, 1, none⟩ (.string s1)).heap[u.heap.size + 1 + 1]? = some (.cells (Rc.cells ⟨true, s1, true, ⟨#[]⟩, first + Z, (V0 : Int)⟩) 58 (0, 0)) := by rw [setCell_heap hbx]; rfl
  have hB1 : Below ((u.alloc (.cells #[.bool false, .string ⟨#[]⟩, .bool false, .string ⟨#[]⟩, .int .i64 0, .int .i64 0] 58)).alloc (.cells #[.bool false, .string ⟨#[]⟩, .bool false, .string ⟨#[]⟩, .int .i64 0, .int .i64 0] 58)).heap.size ((u.alloc (.cells #[.bool false, .string ⟨#[]⟩, .bool false, .string ⟨#[]⟩, .int .i64 0, .int .i64 0] 58)).alloc (.cells #[.bool false, .string ⟨#[]⟩, .bool false, .string ⟨#[]⟩, .int .i64 0, .int .i64 0] 58)) (w3.setCell ⟨u.heap.size + 1 + 1, 1, none⟩ (.string s1)) := hb3.setCell (p := ⟨u.heap.size + 1 + 1, 1, none⟩) (by simp) _
  have HFF : Hid _ := hf1
  have HBB : Hid _ := hB1
  have Hb1 : Hid _ := hB1
  have Hb3x : Hid _ := hb3
  clear hbx hb3 hf1 hB1
  go_wp2_with (first
    | (go_at_call 58; have _t := HT1t; refine (HT1.out _ (hr.below (two_box Hb3x.out).2.2)).mono ?_; clear HT1t _t; rintro e w4 ⟨rfl, hw⟩; subst w4)
    | (have _t := h0; refine wpList_load_row rfl 58 _ rfl (u.heap.size + 1) rfl 58 rz.cells (0, 0) _ (two_box HBB.out).2.1 Tryd.underlying58 rfl Tryd.info58 ?_)
    | (have _t := h0; refine wpList_store_row rfl 58 _ _ rfl u.heap.size rz.cells rfl rfl 58 rz.cells (two_box HBB.out).1 Tryd.info58 rfl (rc_one _) ?_))
  refine bodyPost_ret (v := .tuple #[.agg rz.cells, .int .i64 0, .int .i64 10]) ?_ rfl ⟨rfl, ?_⟩
  · exact results_rec (p := 4) (u := 5) (u2 := 6) (by rfl) _ _ u.heap.size rz _ _ (by rfl) (by rfl) (by rfl) (setRow_heap _ _ _ _ _ _ (two_box HBB.out).1)
  · exact below_setRow (two_box HBB.out).2.2 (Nat.le_refl _) _
end Go.Proofs.YtgpeldmplkijlaaDoor
