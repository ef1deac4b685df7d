/- Decode. -/
import Derived.Test.YtaooidckmepdeaaDoorDs
namespace Go.Proofs.YtaooidckmepdeaaDoor
set_option linter.unusedSimpArgs false
set_option linter.unusedVariables false
open Go.RowKit
theorem row_blk {w : World} {a : Option Addr} {l : List Nat} (hr : Row w a l) (h0 : 0 < l.length) : ∀ x, a = some x → x.block < w.heap.size := by
  intro x hx
  obtain ⟨b, off, e, hc, _⟩ := hr 0 h0
  rw [hx] at e
  injection e with e
  subst e
  exact World.block_lt_of_cell? _ _ hc
theorem ds_start {w : World} {a : Option Addr} {l : List Nat} {cap : Nat} (hk hv : Bool) (hr : Row w a l) (h0 : 0 < l.length) (hl : l.length ≤ cap) (hc : cap ≤ maxLen) :
    DS w.heap.size w.heap.size (w.heap.size + 1) w ((w.alloc (.cells #[.bool hk, .string ⟨#[]⟩, .bool hv, .string ⟨#[]⟩, .int .i64 0, .int .i64 0] 87)).alloc (.cells #[.slice (cutA a cap 1) (l.length - 1) (cap - 1), .bool false] 174)) ⟨hk, ⟨#[]⟩, hv, ⟨#[]⟩, 0, 0⟩ (l.drop 1) false := by
  have hb1 : Below w.heap.size w (w.alloc (.cells #[.bool hk, .string ⟨#[]⟩, .bool hv, .string ⟨#[]⟩, .int .i64 0, .int .i64 0] 87)) := below_box _
  obtain ⟨w1, hw1⟩ : ∃ w1, w1 = w.alloc (.cells #[.bool hk, .string ⟨#[]⟩, .bool hv, .string ⟨#[]⟩, .int .i64 0, .int .i64 0] 87) := ⟨_, rfl⟩
  have hs1 : w1.heap.size = w.heap.size + 1 := by rw [hw1]; simp
  have hg1 : w1.heap[w.heap.size]? = some (.cells #[.bool hk, .string ⟨#[]⟩, .bool hv, .string ⟨#[]⟩, .int .i64 0, .int .i64 0] 87 (0, 0)) := by rw [hw1]; exact heap_alloc_new w _
  rw [← hw1] at hb1 ⊢
  obtain ⟨w2, hw2⟩ : ∃ w2, w2 = w1.alloc (.cells #[.slice (cutA a cap 1) (l.length - 1) (cap - 1), .bool false] 174) := ⟨_, rfl⟩
  have hb2 : Below w1.heap.size w1 w2 := by rw [hw2]; exact below_box _
  have hg2 : w2.heap[w1.heap.size]? = some (.cells #[.slice (cutA a cap 1) (l.length - 1) (cap - 1), .bool false] 174 (0, 0)) := by rw [hw2]; exact heap_alloc_new w1 _
  have hB := hb1.trans (hb2.mono (by omega))
  rw [← hw2]
  rw [hs1] at hg2
  have hc2 : ∀ j, w2.cell? ⟨w.heap.size + 1, j, none⟩ = (#[.slice (cutA a cap 1) (l.length - 1) (cap - 1), .bool false] : Array Value)[j]? := fun j => cell_of_row _ _ j _ 174 (0, 0) hg2
  have hf2 : ∀ j, w2.frozen? ⟨w.heap.size + 1, j, none⟩ = false := fun j => by simp [World.frozen?, hg2]
  have hlow := cut_low (cap := cap) (n := 1) (row_blk hr h0)
  refine ⟨by rw [hb2.block _ (by omega)]; exact hg1, ⟨⟨cutA a cap 1, cap - 1, by rw [hc2, List.length_drop]; rfl, row_low (row_cut cap 1 hr hl) hlow hB, by simp; omega, by omega, hlow⟩, by rw [hc2]; rfl, hf2 0, hf2 1⟩, hB, Nat.le_refl _, Nat.lt_succ_self _⟩
theorem u8_and1 (x : Nat) (h : x < 256) : bits .and .u8 (x : Int) 1 = ((x % 2 : Nat) : Int) := by
  rw [u8_and _ _ (by omega) (by omega) (by omega) (by omega), show ((1 : Int).toNat) = 2 ^ 1 - 1 by decide, Nat.and_two_pow_sub_one_eq_mod]
  simp
theorem and2_nat : ∀ x : Fin 4, x.val &&& 2 = x.val / 2 * 2 := by decide
theorem u8_and2 (x : Nat) (h : x ≤ 3) : bits .and .u8 (x : Int) 2 = ((x / 2 * 2 : Nat) : Int) := by
  rw [u8_and _ _ (by omega) (by omega) (by omega) (by omega)]
  have := and2_nat ⟨x, by omega⟩
  simp only at this
  rw [show ((x : Int)).toNat = x by omega, show ((2 : Int).toNat) = 2 by decide, this]
theorem ds_after {M R B : Nat} {w0 w w' : World} {r : Rc} {l : List Nat} {bad : Bool} (h : DS M R B w0 w r l bad) (hb : Below w.heap.size w w') (hM : M ≤ w0.heap.size) : w'.heap[R]? = some (.cells r.cells 87 (0, 0)) ∧ Below M w0 w' := by
  have hlt : R < w.heap.size := (Array.getElem?_eq_some_iff.1 h.box).1
  exact ⟨by rw [hb.block R hlt]; exact h.box, h.bel.trans (hb.mono (Nat.le_trans hM h.bel.size))⟩
/-- What stands while the answer is laid. -/
def SD (w0 : World) (M R B : Nat) (r : Rc) (x : Value) (y : World) : Prop := y.heap[R]? = some (.cells r.cells 87 (0, 0)) ∧ y.cell? ⟨B, 0, none⟩ = some x ∧ Below M w0 y
theorem box_cells {w : World} {R : Nat} {r : Rc} (h : w.heap[R]? = some (.cells r.cells 87 (0, 0))) :
    w.cell? ⟨R, 0, none⟩ = some (.bool r.hk) ∧ w.cell? ⟨R, 1, none⟩ = some (.string r.k) ∧ w.cell? ⟨R, 2, none⟩ = some (.bool r.hv) ∧ w.cell? ⟨R, 3, none⟩ = some (.string r.v) ∧ w.cell? ⟨R, 4, none⟩ = some (.int .i64 r.t) ∧ w.cell? ⟨R, 5, none⟩ = some (.int .i64 r.o) := by
  have hc : ∀ j, w.cell? ⟨R, j, none⟩ = r.cells[j]? := fun j => cell_of_row _ R j r.cells 87 (0, 0) h
  exact ⟨by rw [hc]; rfl, by rw [hc]; rfl, by rw [hc]; rfl, by rw [hc]; rfl, by rw [hc]; rfl, by rw [hc]; rfl⟩
theorem sd_setRow {w0 : World} {M R B : Nat} {r : Rc} {x : Value} {y : World} (h : SD w0 M R B r x y) (hM : M ≤ R) (hRB : R < B) : SD w0 M R B r x (y.setRow R r.cells) := by
  refine ⟨setRow_heap _ _ _ _ _ _ h.1, ?_, below_setRow h.2.2 hM _⟩
  have hB : (y.setRow R r.cells).heap[B]? = y.heap[B]? := setRow_other y R B _ (by omega)
  have := h.2.1
  unfold World.cell? at this ⊢
  rw [hB]
  exact this
theorem sd_of {w0 w w' : World} {M R B : Nat} {r : Rc} {l : List Nat} {bad : Bool} (h : DS M R B w0 w r l bad) (hb : Below w.heap.size w w') (hM : M ≤ w0.heap.size) : ∃ a c, w'.cell? ⟨B, 0, none⟩ = some (.slice a l.length c) ∧ SD w0 M R B r (.slice a l.length c) w' := by
  obtain ⟨h1, h2⟩ := ds_after h hb hM
  obtain ⟨a, c, c0, _⟩ := h.rd.ex
  have : w'.cell? ⟨B, 0, none⟩ = some (.slice a l.length c) := by rw [hb.cell (World.block_lt_of_cell? _ _ c0)]; exact c0
  exact ⟨a, c, this, h1, this, h2⟩
set_option maxRecDepth 100000 in
set_option maxHeartbeats 2000000 in
theorem decode_in (b off cap : Nat) (l : List Nat) (first : Int) (w : World) (c : Nat) (hc0 : w.cell? ⟨b, off, none⟩ = some (.int .u8 (c : Int))) (h0 : 0 < l.length) (hl : l.length ≤ cap) (hcm : cap ≤ 9223372036854775807) (h3 : c ≤ 3)
    (hk hv : Bool) (hk1 : (bits .and .u8 (c : Int) 1 != 0) = hk) (hv1 : (bits .and .u8 (c : Int) 2 != 0) = hv) (x : Option Addr) (hx : x = cutA (some ⟨b, off, none⟩) cap 1)
    (HI : Hid (∀ w', Calls Tryd.prog 105 #[.int .i64 first] w' fun e w2 => e = .returned (.bool true) ∧ w2 = w'))
    (q0 q1 q2 q3 q4 : List Nat) (V0 V1 : Nat) (Z T O : Int) (bA bB bC bD : Bool) (s1 s2 : ByteArray)
    (HD : Hid (DS w.heap.size w.heap.size (w.heap.size + 1) w ((w.alloc (.cells #[.bool hk, .string ⟨#[]⟩, .bool hv, .string ⟨#[]⟩, .int .i64 0, .int .i64 0] 87)).alloc (.cells #[.slice x (l.length - 1) (cap - 1), .bool false] 174)) ⟨hk, ⟨#[]⟩, hv, ⟨#[]⟩, 0, 0⟩ q0 false))
    (HN0 : Hid (∀ w' r, DS w.heap.size w.heap.size (w.heap.size + 1) w w' r q0 false → Calls Tryd.prog 111 #[.pointer (some ⟨w.heap.size + 1, 0, none⟩)] w' fun e w2 => e = .returned (.int .u64 (V0 : Int)) ∧ DS w.heap.size w.heap.size (w.heap.size + 1) w w2 r q1 bA))
    (HN1 : Hid (∀ w' r, DS w.heap.size w.heap.size (w.heap.size + 1) w w' r q1 bA → Calls Tryd.prog 111 #[.pointer (some ⟨w.heap.size + 1, 0, none⟩)] w' fun e w2 => e = .returned (.int .u64 (V1 : Int)) ∧ DS w.heap.size w.heap.size (w.heap.size + 1) w w2 r q2 bB))
    (HZ : Hid (∀ w', Calls Tryd.prog 112 #[.int .u64 (V1 : Int)] w' fun e w2 => e = .returned (.int .i64 Z) ∧ w2 = w'))
    (HT1 : Hid (∀ w' r, DS w.heap.size w.heap.size (w.heap.size + 1) w w' r q2 bB → Calls Tryd.prog 113 #[.pointer (some ⟨w.heap.size + 1, 0, none⟩), .bool hk] w' fun e w2 => e = .returned (.string s1) ∧ DS w.heap.size w.heap.size (w.heap.size + 1) w w2 r q3 bC))
    (HT2 : Hid (∀ w' r, DS w.heap.size w.heap.size (w.heap.size + 1) w w' r q3 bC → Calls Tryd.prog 113 #[.pointer (some ⟨w.heap.size + 1, 0, none⟩), .bool hv] w' fun e w2 => e = .returned (.string s2) ∧ DS w.heap.size w.heap.size (w.heap.size + 1) w w2 r q4 bD))
    (hO : IntKind.i64.wrap (V0 : Int) = O) (hT : IntKind.i64.wrap (first + Z) = T) (cc : Int)
    (HC : Hid (∀ w', Calls Tryd.prog 102 #[.agg #[.bool hk, .string s1, .bool hv, .string s2, .int .i64 T, .int .i64 O]] w' fun e w2 => e = .returned (.int .i64 cc) ∧ Below w'.heap.size w' w2)) (R : Value)
    (HR : Hid (R = if bD = false ∧ cc = 0 then .tuple #[.agg (Rc.cells ⟨hk, s1, hv, s2, T, O⟩), .int .i64 ((l.length - q4.length : Nat) : Int), .int .i64 0] else .tuple #[.agg rz.cells, .int .i64 0, .int .i64 10])) (hq4 : q4.length ≤ l.length) :
    Calls Tryd.prog 104 #[.slice (some ⟨b, off, none⟩) l.length cap, .int .i64 first] w fun e w' => e = .returned R ∧ Below w.heap.size w w' := by
  have hbw : b < w.heap.size := World.block_lt_of_cell? _ _ hc0
  have h0I : ((l.length : Int) == 0) = false := by rw [beq_eq_false_iff_ne]; omega
  have hM := Nat.le_refl w.heap.size
  have hsub : IntKind.i64.wrap ((l.length : Int) - (q4.length : Int)) = ((l.length - q4.length : Nat) : Int) := by rw [IntKind.wrap_i64]; omega
  have h0J : (0 : Int) < (l.length : Int) := by omega
  have h3I : ¬ (3 : Int) < (c : Int) := by omega
  have tok1 : True := trivial
  have tok2 : True := trivial
  have hxx : x = if cap = 1 then some ⟨b, off, none⟩ else some ⟨b, off + 1, none⟩ := by rw [hx]; unfold cutA; split <;> rfl
  clear hx
  by_cases hcap : cap = 1
  · rw [if_pos hcap] at hxx
    subst hxx
    rw [hcap] at HD
    rcases bD with _ | _
    · by_cases hcc : cc = 0
      · have hRR : R = .tuple #[.agg (Rc.cells ⟨hk, s1, hv, s2, T, O⟩), .int .i64 ((l.length - q4.length : Nat) : Int), .int .i64 0] := by rw [HR.out, if_pos ⟨rfl, hcc⟩]
        subst hRR
        subst hcc
        clear HR hq4
        go_enter Tryd.func104, Tryd.ntmps104
        go_wp2_with (first
      | (go_at_call 105; refine (HI.out _).mono ?_; rintro e w2 ⟨rfl, hw⟩; subst w2)
      | (go_at_call 111; have _t := tok1; refine (HN0.out _ _ HD.out).mono ?_; clear tok1 _t; rintro e w1 ⟨rfl, hD1⟩; have HD1 : Hid _ := hD1; obtain ⟨e0, e1, e2, e3, e4, e5, ef⟩ := DS.cells hD1; simp only at e0 e1 e2 e3 e4 e5; clear hD1)
      | (go_at_call 111; refine (HN1.out _ _ (DS.put HD1.out 5 _ ⟨hk, ⟨#[]⟩, hv, ⟨#[]⟩, 0, O⟩ rfl)).mono ?_; clear HD1 e0 e1 e2 e3 e4 e5 ef; rintro e w2 ⟨rfl, hD2⟩; have HD2 : Hid _ := hD2; obtain ⟨e0, e1, e2, e3, e4, e5, ef⟩ := DS.cells hD2; simp only at e0 e1 e2 e3 e4 e5; clear hD2)
      | (go_at_call 112; refine (HZ.out _).mono ?_; rintro e w3 ⟨rfl, hw⟩; subst w3)
      | (go_at_call 113; have _t := tok2; refine (HT1.out _ _ (DS.put HD2.out 4 _ ⟨hk, ⟨#[]⟩, hv, ⟨#[]⟩, T, O⟩ rfl)).mono ?_; clear tok2 _t HD2 e0 e1 e2 e3 e4 e5 ef; rintro e w4 ⟨rfl, hD3⟩; have HD3 : Hid _ := hD3; obtain ⟨e0, e1, e2, e3, e4, e5, ef⟩ := DS.cells hD3; simp only at e0 e1 e2 e3 e4 e5; clear hD3)
      | (go_at_call 113; refine (HT2.out _ _ (DS.put HD3.out 1 _ ⟨hk, s1, hv, ⟨#[]⟩, T, O⟩ rfl)).mono ?_; clear HD3 e0 e1 e2 e3 e4 e5 ef; rintro e w5 ⟨rfl, hD4⟩; have HD5 : Hid _ := DS.put hD4 3 (.string s2) ⟨hk, s1, hv, s2, T, O⟩ rfl; obtain ⟨e0, e1, e2, e3, e4, e5, ef⟩ := DS.cells hD4; have hB1 := hD4.rd.c1; have hBB := hD4.rb; simp only at e0 e1 e2 e3 e4 e5; clear hD4)
      | (go_at_call 102; refine (HC.out _).mono ?_; rintro e w6 ⟨rfl, hb6⟩; have HX : Hid _ := ds_after HD5.out hb6 hM))
        obtain ⟨a4, c4, hx4, hSD⟩ := sd_of HD5.out hb6 hM
        clear hx4
        refine wp_region_lat (SD w w.heap.size w.heap.size (w.heap.size + 1) ⟨hk, s1, hv, s2, T, O⟩ (.slice a4 q4.length c4)) 9 (by kernel_rfl) (show SD w w.heap.size w.heap.size (w.heap.size + 1) ⟨hk, s1, hv, s2, T, O⟩ (.slice a4 q4.length c4) w6.drew from ⟨hSD.1, hSD.2.1, hSD.2.2.drew⟩) (fun hHeld => ?_)
        clear hSD
        refine lat_take 0 (v := ?_) rfl (by kernel_rfl) (by kernel_rfl) (by kernel_rfl) (by kernel_rfl) (fun _ _ _ h => h) (by rfl) ?_ (by assumption) ?_
        rotate_left
        · (intro w hSw; obtain ⟨zh, zx, zb⟩ := hSw; obtain ⟨z0, z1, z2, z3, z4, z5⟩ := box_cells zh; clear zh zb; simp only at z0 z1 z2 z3 z4 z5; go_simp <;> with_reducible rfl)
        try simp only [Act.put, List.setIfInBounds_toArray, List.set_cons_zero, List.set_cons_succ]
        refine lat_take 1 (v := ?_) rfl (by kernel_rfl) (by kernel_rfl) (by kernel_rfl) (by kernel_rfl) (fun _ _ _ h => h) (by rfl) ?_ (by assumption) ?_
        rotate_left
        · (intro w hSw; obtain ⟨zh, zx, zb⟩ := hSw; obtain ⟨z0, z1, z2, z3, z4, z5⟩ := box_cells zh; clear zh zb; simp only at z0 z1 z2 z3 z4 z5; go_simp <;> with_reducible rfl)
        try simp only [Act.put, List.setIfInBounds_toArray, List.set_cons_zero, List.set_cons_succ]
        refine lat_take 2 (v := ?_) rfl (by kernel_rfl) (by kernel_rfl) (by kernel_rfl) (by kernel_rfl) (fun _ _ _ h => h) (by rfl) ?_ (by assumption) ?_
        rotate_left
        · (intro w hSw; obtain ⟨zh, zx, zb⟩ := hSw; obtain ⟨z0, z1, z2, z3, z4, z5⟩ := box_cells zh; clear zh zb; simp only at z0 z1 z2 z3 z4 z5; go_simp <;> with_reducible rfl)
        try simp only [Act.put, List.setIfInBounds_toArray, List.set_cons_zero, List.set_cons_succ]
        refine lat_take 3 (v := ?_) rfl (by kernel_rfl) (by kernel_rfl) (by kernel_rfl) (by kernel_rfl) (fun _ _ _ h => h) (by rfl) ?_ (by assumption) ?_
        rotate_left
        · (intro w hSw; obtain ⟨zh, zx, zb⟩ := hSw; obtain ⟨z0, z1, z2, z3, z4, z5⟩ := box_cells zh; clear zh zb; simp only at z0 z1 z2 z3 z4 z5; go_simp <;> with_reducible rfl)
        try simp only [Act.put, List.setIfInBounds_toArray, List.set_cons_zero, List.set_cons_succ]
        refine lat_take 4 (v := ?_) rfl (by kernel_rfl) (by kernel_rfl) (by kernel_rfl) (by kernel_rfl) (fun _ _ _ h => h) (by rfl) ?_ (by assumption) ?_
        rotate_left
        · (intro w hSw; obtain ⟨zh, zx, zb⟩ := hSw; obtain ⟨z0, z1, z2, z3, z4, z5⟩ := box_cells zh; clear zh zb; simp only at z0 z1 z2 z3 z4 z5; go_simp <;> with_reducible rfl)
        try simp only [Act.put, List.setIfInBounds_toArray, List.set_cons_zero, List.set_cons_succ]
        refine lat_take 5 (v := ?_) rfl (by kernel_rfl) (by kernel_rfl) (by kernel_rfl) (by kernel_rfl) (fun _ _ _ h => h) (by rfl) ?_ (by assumption) ?_
        rotate_left
        · (intro w hSw; obtain ⟨zh, zx, zb⟩ := hSw; obtain ⟨z0, z1, z2, z3, z4, z5⟩ := box_cells zh; clear zh zb; simp only at z0 z1 z2 z3 z4 z5; go_simp <;> with_reducible rfl)
        try simp only [Act.put, List.setIfInBounds_toArray, List.set_cons_zero, List.set_cons_succ]
        refine lat_take 6 (v := ?_) rfl (by kernel_rfl) (by kernel_rfl) (by kernel_rfl) (by kernel_rfl) (fun _ _ _ h => h) (by rfl) ?_ (by assumption) ?_
        rotate_left
        · (intro w hSw; obtain ⟨zh, zx, zb⟩ := hSw; obtain ⟨z0, z1, z2, z3, z4, z5⟩ := box_cells zh; clear zh zb; simp only at z0 z1 z2 z3 z4 z5; go_simp <;> with_reducible rfl)
        try simp only [Act.put, List.setIfInBounds_toArray, List.set_cons_zero, List.set_cons_succ]
        refine lat_one 7 rfl (by kernel_rfl) (by decide) (by rfl) (fun K hK => ?_)
        refine wp_store_row 87 _ _ rfl w.heap.size (Rc.cells ⟨hk, s1, hv, s2, T, O⟩) rfl rfl 87 (Rc.cells ⟨hk, s1, hv, s2, T, O⟩) hHeld.1 Tryd.info87 rfl (rc_one _) ?_
        refine hK.out _ _ (sd_setRow hHeld (Nat.le_refl _) (Nat.lt_succ_self _)) (fun hHeld2 => ?_)
        clear hK hHeld
        try simp only [Act.put, List.setIfInBounds_toArray, List.set_cons_zero, List.set_cons_succ]
        refine lat_take 8 (v := ?_) rfl (by kernel_rfl) (by kernel_rfl) (by kernel_rfl) (by kernel_rfl) (fun _ _ _ h => h) (by rfl) ?_ (by assumption) ?_
        rotate_left
        · (intro w hSw; obtain ⟨zh, zx, zb⟩ := hSw; obtain ⟨z0, z1, z2, z3, z4, z5⟩ := box_cells zh; clear zh zb; simp only at z0 z1 z2 z3 z4 z5; go_simp <;> with_reducible rfl)
        try simp only [Act.put, List.setIfInBounds_toArray, List.set_cons_zero, List.set_cons_succ]
        refine lat_last 9 rfl (by kernel_rfl) (by decide) (by kernel_rfl) (by rfl) (fun K hK => ?_)
        go_simp
        refine hK.out _ _ ?_
        clear hK
        try simp only [Act.put, List.setIfInBounds_toArray, List.set_cons_zero, List.set_cons_succ]
        go_wp2_with fail
        refine bodyPost_ret (v := .tuple #[.agg (Rc.cells ⟨hk, s1, hv, s2, T, O⟩), .int .i64 ((l.length - q4.length : Nat) : Int), .int .i64 0]) ?_ rfl ⟨rfl, hHeld2.2.2⟩
        exact results_rec (p := 4) (u := 5) (u2 := 6) (by rfl) _ _ w.heap.size ⟨hk, s1, hv, s2, T, O⟩ _ _ (by rfl) (by rfl) (by rfl) hHeld2.1
      · have hRR : R = .tuple #[.agg rz.cells, .int .i64 0, .int .i64 10] := by rw [HR.out, if_neg (fun q => hcc q.2)]
        subst hRR
        have hne : (cc != 0) = true := by rw [bne_iff_ne]; exact hcc
        clear HR hq4 hcc
        go_enter Tryd.func104, Tryd.ntmps104
        go_wp2_with (first
      | (go_at_call 105; refine (HI.out _).mono ?_; rintro e w2 ⟨rfl, hw⟩; subst w2)
      | (go_at_call 111; have _t := tok1; refine (HN0.out _ _ HD.out).mono ?_; clear tok1 _t; rintro e w1 ⟨rfl, hD1⟩; have HD1 : Hid _ := hD1; obtain ⟨e0, e1, e2, e3, e4, e5, ef⟩ := DS.cells hD1; simp only at e0 e1 e2 e3 e4 e5; clear hD1)
      | (go_at_call 111; refine (HN1.out _ _ (DS.put HD1.out 5 _ ⟨hk, ⟨#[]⟩, hv, ⟨#[]⟩, 0, O⟩ rfl)).mono ?_; clear HD1 e0 e1 e2 e3 e4 e5 ef; rintro e w2 ⟨rfl, hD2⟩; have HD2 : Hid _ := hD2; obtain ⟨e0, e1, e2, e3, e4, e5, ef⟩ := DS.cells hD2; simp only at e0 e1 e2 e3 e4 e5; clear hD2)
      | (go_at_call 112; refine (HZ.out _).mono ?_; rintro e w3 ⟨rfl, hw⟩; subst w3)
      | (go_at_call 113; have _t := tok2; refine (HT1.out _ _ (DS.put HD2.out 4 _ ⟨hk, ⟨#[]⟩, hv, ⟨#[]⟩, T, O⟩ rfl)).mono ?_; clear tok2 _t HD2 e0 e1 e2 e3 e4 e5 ef; rintro e w4 ⟨rfl, hD3⟩; have HD3 : Hid _ := hD3; obtain ⟨e0, e1, e2, e3, e4, e5, ef⟩ := DS.cells hD3; simp only at e0 e1 e2 e3 e4 e5; clear hD3)
      | (go_at_call 113; refine (HT2.out _ _ (DS.put HD3.out 1 _ ⟨hk, s1, hv, ⟨#[]⟩, T, O⟩ rfl)).mono ?_; clear HD3 e0 e1 e2 e3 e4 e5 ef; rintro e w5 ⟨rfl, hD4⟩; have HD5 : Hid _ := DS.put hD4 3 (.string s2) ⟨hk, s1, hv, s2, T, O⟩ rfl; obtain ⟨e0, e1, e2, e3, e4, e5, ef⟩ := DS.cells hD4; have hB1 := hD4.rd.c1; have hBB := hD4.rb; simp only at e0 e1 e2 e3 e4 e5; clear hD4)
      | (go_at_call 102; refine (HC.out _).mono ?_; rintro e w6 ⟨rfl, hb6⟩; have HX : Hid _ := ds_after HD5.out hb6 hM)
      | (have _t := HX; refine wpList_store_row rfl 87 _ _ rfl w.heap.size rz.cells rfl rfl 87 (Rc.cells ⟨hk, s1, hv, s2, T, O⟩) HX.out.1 Tryd.info87 rfl (rc_one _) ?_))
        refine bodyPost_ret (v := .tuple #[.agg rz.cells, .int .i64 0, .int .i64 10]) ?_ rfl ⟨rfl, ?_⟩
        · exact results_rec (p := 4) (u := 5) (u2 := 6) (by rfl) _ _ w.heap.size rz _ _ (by rfl) (by rfl) (by rfl) (setRow_heap _ _ _ _ _ _ HX.out.1)
        · exact below_setRow HX.out.2 (Nat.le_refl _) _
    · have hRR : R = .tuple #[.agg rz.cells, .int .i64 0, .int .i64 10] := by rw [HR.out, if_neg (fun q => by cases q.1)]
      subst hRR
      clear HR hq4
      go_enter Tryd.func104, Tryd.ntmps104
      go_wp2_with (first
      | (go_at_call 105; refine (HI.out _).mono ?_; rintro e w2 ⟨rfl, hw⟩; subst w2)
      | (go_at_call 111; have _t := tok1; refine (HN0.out _ _ HD.out).mono ?_; clear tok1 _t; rintro e w1 ⟨rfl, hD1⟩; have HD1 : Hid _ := hD1; obtain ⟨e0, e1, e2, e3, e4, e5, ef⟩ := DS.cells hD1; simp only at e0 e1 e2 e3 e4 e5; clear hD1)
      | (go_at_call 111; refine (HN1.out _ _ (DS.put HD1.out 5 _ ⟨hk, ⟨#[]⟩, hv, ⟨#[]⟩, 0, O⟩ rfl)).mono ?_; clear HD1 e0 e1 e2 e3 e4 e5 ef; rintro e w2 ⟨rfl, hD2⟩; have HD2 : Hid _ := hD2; obtain ⟨e0, e1, e2, e3, e4, e5, ef⟩ := DS.cells hD2; simp only at e0 e1 e2 e3 e4 e5; clear hD2)
      | (go_at_call 112; refine (HZ.out _).mono ?_; rintro e w3 ⟨rfl, hw⟩; subst w3)
      | (go_at_call 113; have _t := tok2; refine (HT1.out _ _ (DS.put HD2.out 4 _ ⟨hk, ⟨#[]⟩, hv, ⟨#[]⟩, T, O⟩ rfl)).mono ?_; clear tok2 _t HD2 e0 e1 e2 e3 e4 e5 ef; rintro e w4 ⟨rfl, hD3⟩; have HD3 : Hid _ := hD3; obtain ⟨e0, e1, e2, e3, e4, e5, ef⟩ := DS.cells hD3; simp only at e0 e1 e2 e3 e4 e5; clear hD3)
      | (go_at_call 113; refine (HT2.out _ _ (DS.put HD3.out 1 _ ⟨hk, s1, hv, ⟨#[]⟩, T, O⟩ rfl)).mono ?_; clear HD3 e0 e1 e2 e3 e4 e5 ef; rintro e w5 ⟨rfl, hD4⟩; have HD5 : Hid _ := DS.put hD4 3 (.string s2) ⟨hk, s1, hv, s2, T, O⟩ rfl; obtain ⟨e0, e1, e2, e3, e4, e5, ef⟩ := DS.cells hD4; have hB1 := hD4.rd.c1; have hBB := hD4.rb; simp only at e0 e1 e2 e3 e4 e5; clear hD4)
      | (have _t := HD5; refine wpList_store_row rfl 87 _ _ rfl w.heap.size rz.cells rfl rfl 87 (Rc.cells ⟨hk, s1, hv, s2, T, O⟩) HD5.out.box Tryd.info87 rfl (rc_one _) ?_))
      refine bodyPost_ret (v := .tuple #[.agg rz.cells, .int .i64 0, .int .i64 10]) ?_ rfl ⟨rfl, ?_⟩
      · exact results_rec (p := 4) (u := 5) (u2 := 6) (by rfl) _ _ w.heap.size rz _ _ (by rfl) (by rfl) (by rfl) (setRow_heap _ _ _ _ _ _ HD5.out.box)
      · exact below_setRow HD5.out.bel (Nat.le_refl _) _
  · rw [if_neg hcap] at hxx
    subst hxx
    rcases bD with _ | _
    · by_cases hcc : cc = 0
      · have hRR : R = .tuple #[.agg (Rc.cells ⟨hk, s1, hv, s2, T, O⟩), .int .i64 ((l.length - q4.length : Nat) : Int), .int .i64 0] := by rw [HR.out, if_pos ⟨rfl, hcc⟩]
        subst hRR
        subst hcc
        clear HR hq4
        go_enter Tryd.func104, Tryd.ntmps104
        go_wp2_with (first
      | (go_at_call 105; refine (HI.out _).mono ?_; rintro e w2 ⟨rfl, hw⟩; subst w2)
      | (go_at_call 111; have _t := tok1; refine (HN0.out _ _ HD.out).mono ?_; clear tok1 _t; rintro e w1 ⟨rfl, hD1⟩; have HD1 : Hid _ := hD1; obtain ⟨e0, e1, e2, e3, e4, e5, ef⟩ := DS.cells hD1; simp only at e0 e1 e2 e3 e4 e5; clear hD1)
      | (go_at_call 111; refine (HN1.out _ _ (DS.put HD1.out 5 _ ⟨hk, ⟨#[]⟩, hv, ⟨#[]⟩, 0, O⟩ rfl)).mono ?_; clear HD1 e0 e1 e2 e3 e4 e5 ef; rintro e w2 ⟨rfl, hD2⟩; have HD2 : Hid _ := hD2; obtain ⟨e0, e1, e2, e3, e4, e5, ef⟩ := DS.cells hD2; simp only at e0 e1 e2 e3 e4 e5; clear hD2)
      | (go_at_call 112; refine (HZ.out _).mono ?_; rintro e w3 ⟨rfl, hw⟩; subst w3)
      | (go_at_call 113; have _t := tok2; refine (HT1.out _ _ (DS.put HD2.out 4 _ ⟨hk, ⟨#[]⟩, hv, ⟨#[]⟩, T, O⟩ rfl)).mono ?_; clear tok2 _t HD2 e0 e1 e2 e3 e4 e5 ef; rintro e w4 ⟨rfl, hD3⟩; have HD3 : Hid _ := hD3; obtain ⟨e0, e1, e2, e3, e4, e5, ef⟩ := DS.cells hD3; simp only at e0 e1 e2 e3 e4 e5; clear hD3)
      | (go_at_call 113; refine (HT2.out _ _ (DS.put HD3.out 1 _ ⟨hk, s1, hv, ⟨#[]⟩, T, O⟩ rfl)).mono ?_; clear HD3 e0 e1 e2 e3 e4 e5 ef; rintro e w5 ⟨rfl, hD4⟩; have HD5 : Hid _ := DS.put hD4 3 (.string s2) ⟨hk, s1, hv, s2, T, O⟩ rfl; obtain ⟨e0, e1, e2, e3, e4, e5, ef⟩ := DS.cells hD4; have hB1 := hD4.rd.c1; have hBB := hD4.rb; simp only at e0 e1 e2 e3 e4 e5; clear hD4)
      | (go_at_call 102; refine (HC.out _).mono ?_; rintro e w6 ⟨rfl, hb6⟩; have HX : Hid _ := ds_after HD5.out hb6 hM))
        obtain ⟨a4, c4, hx4, hSD⟩ := sd_of HD5.out hb6 hM
        clear hx4
        refine wp_region_lat (SD w w.heap.size w.heap.size (w.heap.size + 1) ⟨hk, s1, hv, s2, T, O⟩ (.slice a4 q4.length c4)) 9 (by kernel_rfl) (show SD w w.heap.size w.heap.size (w.heap.size + 1) ⟨hk, s1, hv, s2, T, O⟩ (.slice a4 q4.length c4) w6.drew from ⟨hSD.1, hSD.2.1, hSD.2.2.drew⟩) (fun hHeld => ?_)
        clear hSD
        refine lat_take 0 (v := ?_) rfl (by kernel_rfl) (by kernel_rfl) (by kernel_rfl) (by kernel_rfl) (fun _ _ _ h => h) (by rfl) ?_ (by assumption) ?_
        rotate_left
        · (intro w hSw; obtain ⟨zh, zx, zb⟩ := hSw; obtain ⟨z0, z1, z2, z3, z4, z5⟩ := box_cells zh; clear zh zb; simp only at z0 z1 z2 z3 z4 z5; go_simp <;> with_reducible rfl)
        try simp only [Act.put, List.setIfInBounds_toArray, List.set_cons_zero, List.set_cons_succ]
        refine lat_take 1 (v := ?_) rfl (by kernel_rfl) (by kernel_rfl) (by kernel_rfl) (by kernel_rfl) (fun _ _ _ h => h) (by rfl) ?_ (by assumption) ?_
        rotate_left
        · (intro w hSw; obtain ⟨zh, zx, zb⟩ := hSw; obtain ⟨z0, z1, z2, z3, z4, z5⟩ := box_cells zh; clear zh zb; simp only at z0 z1 z2 z3 z4 z5; go_simp <;> with_reducible rfl)
        try simp only [Act.put, List.setIfInBounds_toArray, List.set_cons_zero, List.set_cons_succ]
        refine lat_take 2 (v := ?_) rfl (by kernel_rfl) (by kernel_rfl) (by kernel_rfl) (by kernel_rfl) (fun _ _ _ h => h) (by rfl) ?_ (by assumption) ?_
        rotate_left
        · (intro w hSw; obtain ⟨zh, zx, zb⟩ := hSw; obtain ⟨z0, z1, z2, z3, z4, z5⟩ := box_cells zh; clear zh zb; simp only at z0 z1 z2 z3 z4 z5; go_simp <;> with_reducible rfl)
        try simp only [Act.put, List.setIfInBounds_toArray, List.set_cons_zero, List.set_cons_succ]
        refine lat_take 3 (v := ?_) rfl (by kernel_rfl) (by kernel_rfl) (by kernel_rfl) (by kernel_rfl) (fun _ _ _ h => h) (by rfl) ?_ (by assumption) ?_
        rotate_left
        · (intro w hSw; obtain ⟨zh, zx, zb⟩ := hSw; obtain ⟨z0, z1, z2, z3, z4, z5⟩ := box_cells zh; clear zh zb; simp only at z0 z1 z2 z3 z4 z5; go_simp <;> with_reducible rfl)
        try simp only [Act.put, List.setIfInBounds_toArray, List.set_cons_zero, List.set_cons_succ]
        refine lat_take 4 (v := ?_) rfl (by kernel_rfl) (by kernel_rfl) (by kernel_rfl) (by kernel_rfl) (fun _ _ _ h => h) (by rfl) ?_ (by assumption) ?_
        rotate_left
        · (intro w hSw; obtain ⟨zh, zx, zb⟩ := hSw; obtain ⟨z0, z1, z2, z3, z4, z5⟩ := box_cells zh; clear zh zb; simp only at z0 z1 z2 z3 z4 z5; go_simp <;> with_reducible rfl)
        try simp only [Act.put, List.setIfInBounds_toArray, List.set_cons_zero, List.set_cons_succ]
        refine lat_take 5 (v := ?_) rfl (by kernel_rfl) (by kernel_rfl) (by kernel_rfl) (by kernel_rfl) (fun _ _ _ h => h) (by rfl) ?_ (by assumption) ?_
        rotate_left
        · (intro w hSw; obtain ⟨zh, zx, zb⟩ := hSw; obtain ⟨z0, z1, z2, z3, z4, z5⟩ := box_cells zh; clear zh zb; simp only at z0 z1 z2 z3 z4 z5; go_simp <;> with_reducible rfl)
        try simp only [Act.put, List.setIfInBounds_toArray, List.set_cons_zero, List.set_cons_succ]
        refine lat_take 6 (v := ?_) rfl (by kernel_rfl) (by kernel_rfl) (by kernel_rfl) (by kernel_rfl) (fun _ _ _ h => h) (by rfl) ?_ (by assumption) ?_
        rotate_left
        · (intro w hSw; obtain ⟨zh, zx, zb⟩ := hSw; obtain ⟨z0, z1, z2, z3, z4, z5⟩ := box_cells zh; clear zh zb; simp only at z0 z1 z2 z3 z4 z5; go_simp <;> with_reducible rfl)
        try simp only [Act.put, List.setIfInBounds_toArray, List.set_cons_zero, List.set_cons_succ]
        refine lat_one 7 rfl (by kernel_rfl) (by decide) (by rfl) (fun K hK => ?_)
        refine wp_store_row 87 _ _ rfl w.heap.size (Rc.cells ⟨hk, s1, hv, s2, T, O⟩) rfl rfl 87 (Rc.cells ⟨hk, s1, hv, s2, T, O⟩) hHeld.1 Tryd.info87 rfl (rc_one _) ?_
        refine hK.out _ _ (sd_setRow hHeld (Nat.le_refl _) (Nat.lt_succ_self _)) (fun hHeld2 => ?_)
        clear hK hHeld
        try simp only [Act.put, List.setIfInBounds_toArray, List.set_cons_zero, List.set_cons_succ]
        refine lat_take 8 (v := ?_) rfl (by kernel_rfl) (by kernel_rfl) (by kernel_rfl) (by kernel_rfl) (fun _ _ _ h => h) (by rfl) ?_ (by assumption) ?_
        rotate_left
        · (intro w hSw; obtain ⟨zh, zx, zb⟩ := hSw; obtain ⟨z0, z1, z2, z3, z4, z5⟩ := box_cells zh; clear zh zb; simp only at z0 z1 z2 z3 z4 z5; go_simp <;> with_reducible rfl)
        try simp only [Act.put, List.setIfInBounds_toArray, List.set_cons_zero, List.set_cons_succ]
        refine lat_last 9 rfl (by kernel_rfl) (by decide) (by kernel_rfl) (by rfl) (fun K hK => ?_)
        go_simp
        refine hK.out _ _ ?_
        clear hK
        try simp only [Act.put, List.setIfInBounds_toArray, List.set_cons_zero, List.set_cons_succ]
        go_wp2_with fail
        refine bodyPost_ret (v := .tuple #[.agg (Rc.cells ⟨hk, s1, hv, s2, T, O⟩), .int .i64 ((l.length - q4.length : Nat) : Int), .int .i64 0]) ?_ rfl ⟨rfl, hHeld2.2.2⟩
        exact results_rec (p := 4) (u := 5) (u2 := 6) (by rfl) _ _ w.heap.size ⟨hk, s1, hv, s2, T, O⟩ _ _ (by rfl) (by rfl) (by rfl) hHeld2.1
      · have hRR : R = .tuple #[.agg rz.cells, .int .i64 0, .int .i64 10] := by rw [HR.out, if_neg (fun q => hcc q.2)]
        subst hRR
        have hne : (cc != 0) = true := by rw [bne_iff_ne]; exact hcc
        clear HR hq4 hcc
        go_enter Tryd.func104, Tryd.ntmps104
        go_wp2_with (first
      | (go_at_call 105; refine (HI.out _).mono ?_; rintro e w2 ⟨rfl, hw⟩; subst w2)
      | (go_at_call 111; have _t := tok1; refine (HN0.out _ _ HD.out).mono ?_; clear tok1 _t; rintro e w1 ⟨rfl, hD1⟩; have HD1 : Hid _ := hD1; obtain ⟨e0, e1, e2, e3, e4, e5, ef⟩ := DS.cells hD1; simp only at e0 e1 e2 e3 e4 e5; clear hD1)
      | (go_at_call 111; refine (HN1.out _ _ (DS.put HD1.out 5 _ ⟨hk, ⟨#[]⟩, hv, ⟨#[]⟩, 0, O⟩ rfl)).mono ?_; clear HD1 e0 e1 e2 e3 e4 e5 ef; rintro e w2 ⟨rfl, hD2⟩; have HD2 : Hid _ := hD2; obtain ⟨e0, e1, e2, e3, e4, e5, ef⟩ := DS.cells hD2; simp only at e0 e1 e2 e3 e4 e5; clear hD2)
      | (go_at_call 112; refine (HZ.out _).mono ?_; rintro e w3 ⟨rfl, hw⟩; subst w3)
      | (go_at_call 113; have _t := tok2; refine (HT1.out _ _ (DS.put HD2.out 4 _ ⟨hk, ⟨#[]⟩, hv, ⟨#[]⟩, T, O⟩ rfl)).mono ?_; clear tok2 _t HD2 e0 e1 e2 e3 e4 e5 ef; rintro e w4 ⟨rfl, hD3⟩; have HD3 : Hid _ := hD3; obtain ⟨e0, e1, e2, e3, e4, e5, ef⟩ := DS.cells hD3; simp only at e0 e1 e2 e3 e4 e5; clear hD3)
      | (go_at_call 113; refine (HT2.out _ _ (DS.put HD3.out 1 _ ⟨hk, s1, hv, ⟨#[]⟩, T, O⟩ rfl)).mono ?_; clear HD3 e0 e1 e2 e3 e4 e5 ef; rintro e w5 ⟨rfl, hD4⟩; have HD5 : Hid _ := DS.put hD4 3 (.string s2) ⟨hk, s1, hv, s2, T, O⟩ rfl; obtain ⟨e0, e1, e2, e3, e4, e5, ef⟩ := DS.cells hD4; have hB1 := hD4.rd.c1; have hBB := hD4.rb; simp only at e0 e1 e2 e3 e4 e5; clear hD4)
      | (go_at_call 102; refine (HC.out _).mono ?_; rintro e w6 ⟨rfl, hb6⟩; have HX : Hid _ := ds_after HD5.out hb6 hM)
      | (have _t := HX; refine wpList_store_row rfl 87 _ _ rfl w.heap.size rz.cells rfl rfl 87 (Rc.cells ⟨hk, s1, hv, s2, T, O⟩) HX.out.1 Tryd.info87 rfl (rc_one _) ?_))
        refine bodyPost_ret (v := .tuple #[.agg rz.cells, .int .i64 0, .int .i64 10]) ?_ rfl ⟨rfl, ?_⟩
        · exact results_rec (p := 4) (u := 5) (u2 := 6) (by rfl) _ _ w.heap.size rz _ _ (by rfl) (by rfl) (by rfl) (setRow_heap _ _ _ _ _ _ HX.out.1)
        · exact below_setRow HX.out.2 (Nat.le_refl _) _
    · have hRR : R = .tuple #[.agg rz.cells, .int .i64 0, .int .i64 10] := by rw [HR.out, if_neg (fun q => by cases q.1)]
      subst hRR
      clear HR hq4
      go_enter Tryd.func104, Tryd.ntmps104
      go_wp2_with (first
      | (go_at_call 105; refine (HI.out _).mono ?_; rintro e w2 ⟨rfl, hw⟩; subst w2)
      | (go_at_call 111; have _t := tok1; refine (HN0.out _ _ HD.out).mono ?_; clear tok1 _t; rintro e w1 ⟨rfl, hD1⟩; have HD1 : Hid _ := hD1; obtain ⟨e0, e1, e2, e3, e4, e5, ef⟩ := DS.cells hD1; simp only at e0 e1 e2 e3 e4 e5; clear hD1)
      | (go_at_call 111; refine (HN1.out _ _ (DS.put HD1.out 5 _ ⟨hk, ⟨#[]⟩, hv, ⟨#[]⟩, 0, O⟩ rfl)).mono ?_; clear HD1 e0 e1 e2 e3 e4 e5 ef; rintro e w2 ⟨rfl, hD2⟩; have HD2 : Hid _ := hD2; obtain ⟨e0, e1, e2, e3, e4, e5, ef⟩ := DS.cells hD2; simp only at e0 e1 e2 e3 e4 e5; clear hD2)
      | (go_at_call 112; refine (HZ.out _).mono ?_; rintro e w3 ⟨rfl, hw⟩; subst w3)
      | (go_at_call 113; have _t := tok2; refine (HT1.out _ _ (DS.put HD2.out 4 _ ⟨hk, ⟨#[]⟩, hv, ⟨#[]⟩, T, O⟩ rfl)).mono ?_; clear tok2 _t HD2 e0 e1 e2 e3 e4 e5 ef; rintro e w4 ⟨rfl, hD3⟩; have HD3 : Hid _ := hD3; obtain ⟨e0, e1, e2, e3, e4, e5, ef⟩ := DS.cells hD3; simp only at e0 e1 e2 e3 e4 e5; clear hD3)
      | (go_at_call 113; refine (HT2.out _ _ (DS.put HD3.out 1 _ ⟨hk, s1, hv, ⟨#[]⟩, T, O⟩ rfl)).mono ?_; clear HD3 e0 e1 e2 e3 e4 e5 ef; rintro e w5 ⟨rfl, hD4⟩; have HD5 : Hid _ := DS.put hD4 3 (.string s2) ⟨hk, s1, hv, s2, T, O⟩ rfl; obtain ⟨e0, e1, e2, e3, e4, e5, ef⟩ := DS.cells hD4; have hB1 := hD4.rd.c1; have hBB := hD4.rb; simp only at e0 e1 e2 e3 e4 e5; clear hD4)
      | (have _t := HD5; refine wpList_store_row rfl 87 _ _ rfl w.heap.size rz.cells rfl rfl 87 (Rc.cells ⟨hk, s1, hv, s2, T, O⟩) HD5.out.box Tryd.info87 rfl (rc_one _) ?_))
      refine bodyPost_ret (v := .tuple #[.agg rz.cells, .int .i64 0, .int .i64 10]) ?_ rfl ⟨rfl, ?_⟩
      · exact results_rec (p := 4) (u := 5) (u2 := 6) (by rfl) _ _ w.heap.size rz _ _ (by rfl) (by rfl) (by rfl) (setRow_heap _ _ _ _ _ _ HD5.out.box)
      · exact below_setRow HD5.out.bel (Nat.le_refl _) _
theorem zero_box (w : World) : (w.alloc (.cells rz.cells 87)).heap[w.heap.size]? = some (.cells rz.cells 87 (0, 0)) := heap_alloc_new w _
set_option maxRecDepth 100000 in
theorem decode_no (a : Option Addr) (cap : Nat) (l : List Nat) (first : Int) (w : World) (hr : Row w a l) (hl : l.length ≤ cap) (hc : cap ≤ maxLen) (hg : gate l first = false) :
    Calls Tryd.prog 104 #[.slice a l.length cap, .int .i64 first] w fun e w' => e = .returned (.tuple #[.agg rz.cells, .int .i64 0, .int .i64 10]) ∧ Below w.heap.size w w' := by
  have HI : Hid _ := isTime_any first
  unfold maxLen at hc
  by_cases ht : timeB first = true
  · rw [ht] at HI
    by_cases h0 : 0 < l.length
    · have h3 : 3 < l.getD 0 0 := by
        simp only [gate, ht, Bool.true_and, Bool.and_eq_false_iff, decide_eq_false_iff_not] at hg
        omega
      obtain ⟨b, off, rfl, hc0, hlt⟩ := hr 0 h0
      rw [Nat.add_zero] at hc0
      clear hr hg
      generalize l.getD 0 0 = c at *
      have hbw : b < w.heap.size := World.block_lt_of_cell? _ _ hc0
      have h0I : ((l.length : Int) == 0) = false := by rw [beq_eq_false_iff_ne]; omega
      have h0J : (0 : Int) < (l.length : Int) := by omega
      have h3I : (3 : Int) < (c : Int) := by omega
      go_enter Tryd.func104, Tryd.ntmps104
      go_wp2_with (first
        | (go_at_call 105; refine (HI.out _).mono ?_; rintro e w2 ⟨rfl, hw⟩; subst w2)
        | (refine wpList_store_row rfl 87 _ _ rfl w.heap.size rz.cells rfl rfl 87 rz.cells (zero_box w) Tryd.info87 rfl (rc_one _) ?_))
      refine bodyPost_ret (v := .tuple #[.agg rz.cells, .int .i64 0, .int .i64 10]) ?_ rfl ⟨rfl, ?_⟩
      · exact results_rec (p := 4) (u := 5) (u2 := 6) (by rfl) _ _ w.heap.size rz _ _ (by rfl) (by rfl) (by rfl) (setRow_heap _ _ _ _ _ _ (zero_box w))
      · exact below_setRow (below_box _) (Nat.le_refl _) _
    · have h0I : l.length = 0 := by omega
      rw [h0I]
      clear hr hg
      go_enter Tryd.func104, Tryd.ntmps104
      go_wp2_with (first
        | (go_at_call 105; refine (HI.out _).mono ?_; rintro e w2 ⟨rfl, hw⟩; subst w2)
        | (refine wpList_store_row rfl 87 _ _ rfl w.heap.size rz.cells rfl rfl 87 rz.cells (zero_box w) Tryd.info87 rfl (rc_one _) ?_))
      refine bodyPost_ret (v := .tuple #[.agg rz.cells, .int .i64 0, .int .i64 10]) ?_ rfl ⟨rfl, ?_⟩
      · exact results_rec (p := 4) (u := 5) (u2 := 6) (by rfl) _ _ w.heap.size rz _ _ (by rfl) (by rfl) (by rfl) (setRow_heap _ _ _ _ _ _ (zero_box w))
      · exact below_setRow (below_box _) (Nat.le_refl _) _
  · have ht' : timeB first = false := by simpa using ht
    rw [ht'] at HI
    clear hr hg ht
    go_enter Tryd.func104, Tryd.ntmps104
    go_wp2_with (first
      | (go_at_call 105; refine (HI.out _).mono ?_; rintro e w2 ⟨rfl, hw⟩; subst w2)
      | (refine wpList_store_row rfl 87 _ _ rfl w.heap.size rz.cells rfl rfl 87 rz.cells (zero_box w) Tryd.info87 rfl (rc_one _) ?_))
    refine bodyPost_ret (v := .tuple #[.agg rz.cells, .int .i64 0, .int .i64 10]) ?_ rfl ⟨rfl, ?_⟩
    · exact results_rec (p := 4) (u := 5) (u2 := 6) (by rfl) _ _ w.heap.size rz _ _ (by rfl) (by rfl) (by rfl) (setRow_heap _ _ _ _ _ _ (zero_box w))
    · exact below_setRow (below_box _) (Nat.le_refl _) _
theorem wr64 (n : Int) : IntKind.i64.wrap n = wrap64 n := by rw [IntKind.wrap_i64]; unfold wrap64; omega
theorem gate_parts {l : List Nat} {first : Int} (h : gate l first = true) : timeB first = true ∧ 0 < l.length ∧ l.getD 0 0 ≤ 3 := by
  simp only [gate, Bool.and_eq_true, decide_eq_true_eq] at h
  exact ⟨h.1.1, h.1.2, h.2⟩
theorem decode_any (a : Option Addr) (cap : Nat) (l : List Nat) (first : Int) (w : World) (hr : Row w a l) (hl : l.length ≤ cap) (hc : cap ≤ maxLen) :
    Calls Tryd.prog 104 #[.slice a l.length cap, .int .i64 first] w fun e w' => e = .returned (.tuple #[.agg (decR l first).cells, .int .i64 ((decN l first : Nat) : Int), .int .i64 (decE l first)]) ∧ Below w.heap.size w w' := by
  by_cases hg : gate l first = true
  · obtain ⟨ht, h0, h3⟩ := gate_parts hg
    have hlt := hr.lt 0
    have HD := ds_start (hkOf l) (hvOf l) hr h0 hl hc
    obtain ⟨b, off, rfl, hc0, _⟩ := hr 0 h0
    rw [Nat.add_zero] at hc0
    have hk1 : (bits .and .u8 ((l.getD 0 0 : Nat) : Int) 1 != 0) = hkOf l := by
      rw [u8_and1 _ (by omega)]
      unfold hkOf
      generalize l.getD 0 0 = c at *
      rw [Bool.eq_iff_iff]
      simp
      omega
    have hv1 : (bits .and .u8 ((l.getD 0 0 : Nat) : Int) 2 != 0) = hvOf l := by
      rw [u8_and2 _ (by omega)]
      unfold hvOf
      generalize l.getD 0 0 = c at *
      rw [Bool.eq_iff_iff]
      simp
      omega
    have HI : ∀ w', Calls Tryd.prog 105 #[.int .i64 first] w' fun e w2 => e = .returned (.bool true) ∧ w2 = w' := by
      have := isTime_any first
      rw [ht] at this
      exact this
    refine decode_in b off cap l first w (l.getD 0 0) hc0 h0 hl (by unfold maxLen at hc; exact hc) h3 (hkOf l) (hvOf l) hk1 hv1 _ rfl HI (p0 l) (p1 l) (p2 l) (p3 l) (p4 l) (numV (p0 l)) (numV (p1 l)) (zag (numV (p1 l))) (wrap64 (first + zag (numV (p1 l)))) (wrap64 (numV (p0 l)))
      (numN (p0 l) == 0) (b2 l) (txB (hkOf l) (p2 l) (b2 l)) (badAt l) (strN (txV (hkOf l) (p2 l))) (strN (txV (hvOf l) (p3 l))) HD ?_ ?_ ?_ ?_ ?_ (wr64 _) (wr64 _) (chk (rcOf l first)) (check_any (rcOf l first)) _ ?_ (by have := p4_len l; omega)
    · intro w' r h
      have := number_ds h
      rw [Bool.false_or] at this
      exact this
    · intro w' r h
      exact number_ds h
    · intro w'
      exact zag_any _ w' (by omega) (by have := numV_le (p1 l); omega)
    · intro w' r h
      exact rtx_ds h _
    · intro w' r h
      exact rtx_ds h _
    · show _ = _
      unfold decR decN decE okD
      rw [hg, Bool.true_and]
      by_cases hb : badAt l = false ∧ chk (rcOf l first) = 0
      · rw [if_pos hb, hb.1, hb.2]
        rfl
      · rw [if_neg hb]
        have : (!badAt l && chk (rcOf l first) == 0) = false := by
          cases h1 : badAt l
          · have : ¬ chk (rcOf l first) = 0 := fun c => hb ⟨h1, c⟩
            simpa using this
          · rfl
        rw [this]
        rfl
  · have hg' : gate l first = false := by simpa using hg
    have e : okD l first = false := by unfold okD; rw [hg']; rfl
    unfold decR decN decE
    rw [e]
    exact decode_no a cap l first w hr hl hc hg'
end Go.Proofs.YtaooidckmepdeaaDoor
