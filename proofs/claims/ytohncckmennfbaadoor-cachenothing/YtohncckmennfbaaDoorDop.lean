/- op, Cut, forget, settled, New. -/
import Derived.Test.YtohncckmennfbaaDoorDev
namespace Go.Proofs.YtohncckmennfbaaDoor
set_option linter.unusedSimpArgs false
set_option linter.unusedVariables false
open Go.RowKit Go.MapKept
open Go.ChangeMaps (setBlock heap_setBlock_same heap_setBlock_other)
/-- op: counted; is the power on? -/
theorem op_any (p fb pb tb : Nat) (d : Dv) (w : World) (h : DevIs w p fb pb tb d) (ho : d.ops < 1000000) :
    Calls Tryd.prog 59 #[.pointer (some ⟨p, 0, none⟩)] w fun e w' => e = .returned (.bool d.on) ∧ DevIs w' p fb pb tb d.tick ∧ Keeps [p] w w' := by
  obtain ⟨c0, c1, c2, c3, c4, c5, c6⟩ := h.c
  have fr := h.fr
  have h1 := h.ok.n1
  have hl := h.ok.left
  have hoI : (d.ops : Int) < 1000000 := by omega
  have hlI : (d.left : Int) ≤ 9223372036854775807 := by omega
  have hn0 : ((d.n : Int) == 0) = false := by simp; omega
  have HOK : Hid (d.tick.Ok) := h.ok.tick ho
  cases hcut : d.cut with
  | false =>
    rw [hcut] at c5
    go_enter Tryd.func59, Tryd.ntmps59
    go_wp2_with (go_at_call 35; refine (blocks_any p fb pb tb d _ h).mono ?_; rintro e w1 ⟨rfl, hw⟩; subst w1)
    go_ret
    refine ⟨retB (by simp [Dv.on, hcut]), ?_, (Keeps.refl _ _).setCell _ _ (by simp)⟩
    refine h.setCells ?_ (fun k hk => heap_setCell_other _ _ _ _ hk) rfl rfl rfl HOK.out
    rw [heap_setCell_same _ _ _ _ _ _ h.cells]
    simp [dcells, Dv.tick, hcut]
  | true =>
    rw [hcut] at c5
    by_cases hl0 : d.left = 0
    · rw [hl0] at c6
      go_enter Tryd.func59, Tryd.ntmps59
      go_wp2_with (go_at_call 35; refine (blocks_any p fb pb tb d _ h).mono ?_; rintro e w1 ⟨rfl, hw⟩; subst w1)
      go_ret
      refine ⟨retB (by simp [Dv.on, hcut, hl0]), ?_, (Keeps.refl _ _).setCell _ _ (by simp)⟩
      refine h.setCells ?_ (fun k hk => heap_setCell_other _ _ _ _ hk) rfl rfl rfl HOK.out
      rw [heap_setCell_same _ _ _ _ _ _ h.cells]
      simp [dcells, Dv.tick, hcut, hl0]
    · have hlz : ((d.left : Int) == 0) = false := by simp; omega
      have hl1 : (1 : Int) ≤ (d.left : Int) := by omega
      go_enter Tryd.func59, Tryd.ntmps59
      go_wp2_with (go_at_call 35; refine (blocks_any p fb pb tb d _ h).mono ?_; rintro e w1 ⟨rfl, hw⟩; subst w1)
      go_ret
      have e1 := heap_setCell_same w p 4 (dcells d fb pb tb) 75 (.int .i64 ((d.ops : Int) + 1)) h.cells
      refine ⟨retB (by simp [Dv.on, hcut, hl0]), ?_, ((Keeps.refl _ _).setCell _ _ (by simp)).setCell _ _ (by simp)⟩
      refine h.setCells ?_ (fun k hk => (heap_setCell_other _ _ _ _ hk).trans (heap_setCell_other _ _ _ _ hk)) rfl rfl rfl HOK.out
      rw [heap_setCell_same _ _ _ _ _ _ e1]
      have e3 : ((d.left - 1 : Nat) : Int) = (d.left : Int) - 1 := by omega
      simp [dcells, Dv.tick, hcut, e3]
/-- Cut. -/
def Dv.cutAt (d : Dv) (k : Int) : Dv := { d with cut := true, left := k.toNat }
theorem cut_any (p fb pb tb : Nat) (d : Dv) (k : Int) (w : World) (h : DevIs w p fb pb tb d) (hk : k ≤ 9223372036854775807) :
    Calls Tryd.prog 22 #[.pointer (some ⟨p, 0, none⟩), .int .i64 k] w fun e w' => (∃ v, e = .returned v) ∧ DevIs w' p fb pb tb (d.cutAt k) ∧ Keeps [p] w w' := by
  obtain ⟨c0, c1, c2, c3, c4, c5, c6⟩ := h.c
  have fr := h.fr
  have h1 := h.ok.n1
  have hn0 : ((d.n : Int) == 0) = false := by simp; omega
  have HOK : Hid ((d.cutAt k).Ok) := ⟨h.ok.n1, h.ok.n2, h.ok.ops, by simp [Dv.cutAt]; omega, h.ok.base, h.ok.pend, h.ok.count⟩
  by_cases hk0 : k < 0
  · go_enter Tryd.func22, Tryd.ntmps22
    go_wp2_with (go_at_call 35; refine (blocks_any p fb pb tb d _ h).mono ?_; rintro e w1 ⟨rfl, hw⟩; subst w1)
    go_end0
    have e1 := heap_setCell_same w p 5 (dcells d fb pb tb) 75 (.bool true) h.cells
    refine ⟨⟨_, rfl⟩, ?_, ((Keeps.refl _ _).setCell _ _ (by simp)).setCell _ _ (by simp)⟩
    refine h.setCells ?_ (fun k hk => (heap_setCell_other _ _ _ _ hk).trans (heap_setCell_other _ _ _ _ hk)) rfl rfl rfl HOK.out
    rw [heap_setCell_same _ _ _ _ _ _ e1]
    have e3 : ((k.toNat : Nat) : Int) = 0 := by omega
    simp [dcells, Dv.cutAt, e3]
  · go_enter Tryd.func22, Tryd.ntmps22
    go_wp2_with (go_at_call 35; refine (blocks_any p fb pb tb d _ h).mono ?_; rintro e w1 ⟨rfl, hw⟩; subst w1)
    go_end0
    have e1 := heap_setCell_same w p 5 (dcells d fb pb tb) 75 (.bool true) h.cells
    refine ⟨⟨_, rfl⟩, ?_, ((Keeps.refl _ _).setCell _ _ (by simp)).setCell _ _ (by simp)⟩
    refine h.setCells ?_ (fun k hk => (heap_setCell_other _ _ _ _ hk).trans (heap_setCell_other _ _ _ _ hk)) rfl rfl rfl HOK.out
    rw [heap_setCell_same _ _ _ _ _ _ e1]
    have e3 : ((k.toNat : Nat) : Int) = k := by omega
    simp [dcells, Dv.cutAt, e3]
/-- forget: two new maps. -/
theorem forget_any (p : Nat) (x0 x1 x2 x3 x4 x5 x6 : Value) (w : World) (h : w.heap[p]? = some (.cells #[x0, x1, x2, x3, x4, x5, x6] 75 (0, 0))) :
    Calls Tryd.prog 60 #[.pointer (some ⟨p, 0, none⟩)] w fun e w' => (∃ v, e = .returned v) ∧ w'.heap[p]? = some (.cells #[x0, x1, .map (some w.heap.size), .map (some (w.heap.size + 1)), x4, x5, x6] 75 (0, 0)) ∧
      w'.heap[w.heap.size]? = some (.map #[] 0) ∧ w'.heap[w.heap.size + 1]? = some (.map #[] 0) ∧ Keeps [p] w w' := by
  have hp : p < w.heap.size := (Array.getElem?_eq_some_iff.1 h).1
  have c2 : w.cell? ⟨p, 2, none⟩ = some x2 := by rw [cell_of_row _ _ _ _ _ _ h]; rfl
  have c3 : w.cell? ⟨p, 3, none⟩ = some x3 := by rw [cell_of_row _ _ _ _ _ _ h]; rfl
  have fr : ∀ i, w.frozen? ⟨p, i, none⟩ = false := fun i => frozen_of_row _ _ _ _ _ h
  have hmm := @run_makeMap Tryd.prog
  go_enter Tryd.func60, Tryd.ntmps60
  go_wp2
  go_end0
  have e1 := heap_setCell_same w p 2 _ 75 (.map (some w.heap.size)) h
  have e2 := heap_setCell_same _ p 3 _ 75 (.map (some (w.heap.size + 1))) e1
  have z : ((w.setCell ⟨p, 2, none⟩ (.map (some w.heap.size))).setCell ⟨p, 3, none⟩ (.map (some (w.heap.size + 1)))).heap.size = w.heap.size := by simp [World.setCell]
  have b0 := heap_alloc2_old ((w.setCell ⟨p, 2, none⟩ (.map (some w.heap.size))).setCell ⟨p, 3, none⟩ (.map (some (w.heap.size + 1)))) (.map #[] 0) (.map #[] 0)
  have b1 := heap_alloc2_new ((w.setCell ⟨p, 2, none⟩ (.map (some w.heap.size))).setCell ⟨p, 3, none⟩ (.map (some (w.heap.size + 1)))) (.map #[] 0) (.map #[] 0)
  rw [z] at b0 b1
  refine ⟨⟨_, rfl⟩, ?_, b0, b1, ((((Keeps.refl _ _).setCell _ _ (by simp)).setCell _ _ (by simp)).alloc _).alloc _⟩
  rw [Below.heap_alloc _ _ _ (by simp [World.setCell]; omega), Below.heap_alloc _ _ _ (by rw [z]; exact hp), e2]
  simp
/-- settled: a new device over these flushed blocks. -/
def fresh (n : Nat) (base : Nat → List Nat) : Dv := ⟨n, base, fun _ => [], 0, false, 0⟩
theorem fresh_ok {n : Nat} {base : Nat → List Nat} (h1 : 1 ≤ n) (h2 : n ≤ 65536) (hb : ∀ k, (base k).length = 512 ∧ ∀ i, (base k).getD i 0 < 256) : (fresh n base).Ok :=
  ⟨h1, h2, by simp [fresh], by simp [fresh], hb, by simp [fresh], by simp [fresh]⟩
theorem settled_any (n fb m : Nat) (base : Nat → List Nat) (F : Nat → Option Value) (w : World) (hF : MapIs w fb mkI F m) (hFb : ∀ k, k < n → (F k).getD (bv zeros) = bv (base k)) (hok : (fresh n base).Ok) :
    Calls Tryd.prog 41 #[.int .i64 (n : Int), .map (some fb)] w fun e w' => e = .returned (.pointer (some ⟨w.heap.size, 0, none⟩)) ∧ DevIs w' w.heap.size fb (w.heap.size + 1) (w.heap.size + 2) (fresh n base) ∧ Below w.heap.size w w' := by
  have hlt := hF.lt
  have hbel : Below w.heap.size w (w.alloc (.cells #[.int .i64 (n : Int), .map (some fb), .map none, .map none, .int .i64 0, .bool false, .int .i64 0] 75)) := (Below.refl _ _).alloc (Nat.le_refl _) _
  have hf := forget_any w.heap.size _ _ _ _ _ _ _ (w.alloc (.cells #[.int .i64 (n : Int), .map (some fb), .map none, .map none, .int .i64 0, .bool false, .int .i64 0] 75)) (heap_alloc_new w _)
  go_enter Tryd.func41, Tryd.ntmps41
  go_wp2_with (go_at_call 60; refine hf.mono ?_; rintro e w1 ⟨⟨v, rfl⟩, e1, e2, e3, hk⟩)
  go_ret
  have hb2 : Below w.heap.size w w1 := hbel.trans (hk.below (by simp) (by simp))
  have hmade : ∀ {α : Type} {mk : α → Value} (f : α → Option Value) (b : Nat), (∀ x, f x = none) → w1.heap[b]? = some (.map #[] 0) → MapIs w1 b mk f 0 := fun f b hf hb => ⟨#[], 0, hb, ⟨stamped_empty 0, by simp, fun a v h => by rw [hf a] at h; cases h⟩, Nat.le_refl _⟩
  have hsz : (w.alloc (.cells #[.int .i64 (n : Int), .map (some fb), .map none, .map none, .int .i64 0, .bool false, .int .i64 0] 75)).heap.size = w.heap.size + 1 := by simp
  rw [hsz] at e1 e2 e3
  refine ⟨rfl, ⟨e1, ⟨F, m, hF.below hb2, hFb⟩, ⟨fun _ => none, 0, hmade _ _ (fun _ => rfl) e2, by simp [fresh]⟩, (hmade _ _ (fun k => by simp [Dv.turns, fresh]) e3).mono (Nat.zero_le _), by omega, hok⟩, hb2⟩
/-- New. -/
theorem zeros_len : zeros.length = 512 := List.length_replicate
theorem bv_zero_ok : zeros.length = 512 ∧ ∀ i, zeros.getD i 0 < 256 := by
  refine ⟨zeros_len, fun i => ?_⟩
  unfold zeros
  rw [List.getD, List.getElem?_replicate]
  split <;> decide
theorem new_any (n : Nat) (w : World) (h1 : 1 ≤ n) (h2 : n ≤ 65536) :
    Calls Tryd.prog 27 #[.int .i64 (n : Int)] w fun e w' => ∃ p fb pb tb, e = .returned (.tuple #[.pointer (some ⟨p, 0, none⟩), .int .i64 0]) ∧ DevIs w' p fb pb tb (fresh n fun _ => zeros) ∧ (∀ x ∈ fp p fb pb tb, w.heap.size ≤ x) ∧ Below w.heap.size w w' := by
  have hmm := @run_makeMap Tryd.prog
  have a1 : ¬ (n : Int) < 1 := by omega
  have a2 : ¬ (65536 : Int) < (n : Int) := by omega
  have hs := settled_any n w.heap.size 0 (fun _ => zeros) (fun _ => none) (w.alloc (.map #[] 0)) (MapIs.made w) (fun k _ => rfl) (fresh_ok h1 h2 fun _ => bv_zero_ok)
  go_enter Tryd.func27, Tryd.ntmps27
  go_wp2_with (go_at_call 41; refine hs.mono ?_; rintro e w1 ⟨rfl, hd, hb⟩)
  go_ret2
  have hz : (w.alloc (.map #[] 0)).heap.size = w.heap.size + 1 := by simp
  rw [hz] at hd
  refine ⟨_, _, _, _, rfl, hd, ?_, ((Below.refl _ w).alloc (Nat.le_refl _) _).trans (hb.mono (by simp))⟩
  intro x hx
  simp only [fp, List.mem_cons, List.not_mem_nil, or_false] at hx
  omega
theorem new_bad (n : Int) (w : World) (h : n < 1 ∨ 65536 < n) :
    Calls Tryd.prog 27 #[.int .i64 n] w fun e w' => e = .returned (.tuple #[.pointer none, .int .i64 1]) ∧ w' = w := by
  by_cases h1 : n < 1
  · go_enter Tryd.func27, Tryd.ntmps27
    go_wp2
    go_ret2
    exact ⟨rfl, rfl⟩
  · have h2 : 65536 < n := by omega
    go_enter Tryd.func27, Tryd.ntmps27
    go_wp2
    go_ret2
    exact ⟨rfl, rfl⟩
end Go.Proofs.YtohncckmennfbaaDoor
