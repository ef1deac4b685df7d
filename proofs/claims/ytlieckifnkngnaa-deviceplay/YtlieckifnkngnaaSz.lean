/- The walks of DeviceSizes and DeviceNothing: true for every argument. -/
import Derived.Test.YtlieckifnkngnaaAwk
namespace Go.Proofs.Ytlieckifnkngnaa
set_option linter.unusedSimpArgs false
set_option linter.unusedVariables false
open Go.RowKit Go.MapKept
theorem readBadD {w : World} {p : Nat} {F : List Nat} {d : Dv} (h : Dev w p F d) (k : Int) (hk : hasB d.n k = false) :
    Calls Try.prog 18 #[.pointer (some ⟨p, 0, none⟩), .int .i64 k] w fun e w' => e = .returned (.tuple #[.slice none 0 0, .int .i64 1]) ∧ w' = w := by
  obtain ⟨fb, pb, tb, rfl, h⟩ := h
  exact read_bad p fb pb tb d k w h hk
theorem bb0 : bb 0 = zeros := rfl
set_option maxRecDepth 100000 in
set_option maxHeartbeats 1000000 in
theorem deviceSizes_walk (a0 : Int) (w : World) (w0 : (Lit.int .i64 a0).wf = true) :
    Calls Try.prog 4 #[.int .i64 a0] w fun e w' => e = .returned (.bool true) ∧ Below w.heap.size w w' := by
  obtain ⟨b1, b2⟩ := bd64 w0
  clear w0
  by_cases h1 : a0 < 1
  · go_enter Try.func4, Try.ntmps4
    go_wp2_with (first
      | (go_at_call 13; refine (new_bad _ _ (.inl h1)).mono ?_; rintro e w1 ⟨rfl, hw⟩; subst w1)
      | (go_at_call 12; refine (awake_any _).mono ?_; rintro e w2 ⟨rfl, hb⟩))
    go_ret
    exact ⟨rfl, by assumption⟩
  by_cases h2 : 65536 < a0
  · go_enter Try.func4, Try.ntmps4
    go_wp2_with (first
      | (go_at_call 13; refine (new_bad _ _ (.inr h2)).mono ?_; rintro e w1 ⟨rfl, hw⟩; subst w1)
      | (go_at_call 12; refine (awake_any _).mono ?_; rintro e w2 ⟨rfl, hb⟩))
    go_ret
    exact ⟨rfl, by assumption⟩
  obtain ⟨n, rfl⟩ := Int.eq_ofNat_of_zero_le (show 0 ≤ a0 by omega)
  have hn1 : 1 ≤ n := by omega
  have hn2 : n ≤ 65536 := by omega
  have eN := eqI (n : Int)
  have K18a : Hid (∀ w1 p F, Dev w1 p F (fresh n fun _ => zeros) → Calls Try.prog 18 #[.pointer (some ⟨p, 0, none⟩), .int .i64 ((n : Int) - 1)] w1 fun e w' => ∃ g, e = .returned (.tuple #[.slice (some ⟨g, 0, none⟩) 512 512, .int .i64 0]) ∧ Full w' g 75 zeros ∧ w1.heap.size ≤ g ∧ Below w1.heap.size w1 w') := fun w1 p F h => by
    have := readD h (n - 1) (by show n - 1 < n; omega)
    rw [show ((n - 1 : Nat) : Int) = (n : Int) - 1 by omega] at this
    exact this
  have K18b : Hid (∀ w1 p F, Dev w1 p F (fresh n fun _ => zeros) → Calls Try.prog 18 #[.pointer (some ⟨p, 0, none⟩), .int .i64 (n : Int)] w1 fun e w' => e = .returned (.tuple #[.slice none 0 0, .int .i64 1]) ∧ w' = w1) := fun w1 p F h => readBadD h _ (by simp [hasB, fresh])
  have hne : ((n : Int) != (n : Int)) = false := by simp
  have tok1 : True := trivial
  go_enter Try.func4, Try.ntmps4
  go_wp2_with (first
    | (go_at_call 13; refine (newD n _ hn1 hn2).mono ?_; rintro e w1 ⟨p, F, rfl, hd, hF, hb1⟩)
    | (go_at_call 17; refine (blocksD hd).mono ?_; rintro e w2 ⟨rfl, hw⟩; subst w2; simp only [fresh])
    | (go_at_call 18; have _t := tok1; refine (K18a.out _ _ _ hd).mono ?_; rintro e w3 ⟨g, rfl, f, _, hb3⟩; have hd := hd.below hb3; clear tok1 _t)
    | (go_at_call 18; refine (K18b.out _ _ _ hd).mono ?_; rintro e w4 ⟨rfl, hw⟩; subst w4)
    | (go_at_call 20; refine (block_any 0 _).mono ?_; rintro e w5 ⟨g5, rfl, f5, _, hb5⟩; have f := f.below hb5)
    | (go_at_call 19; refine (alike_yes f (by rw [← bb0]; exact f5) zeros_len bv_zero_ok.2).mono ?_; rintro e w6 ⟨rfl, hb6⟩)
    | (go_at_call 12; refine (awake_any _).mono ?_; rintro e w7 ⟨rfl, hb7⟩))
  go_ret
  exact ⟨rfl, ((((hb1.trans (hb3.mono hb1.size)).trans (hb5.mono (by have := hb1.size; have := hb3.size; omega))).trans (hb6.mono (by have := hb1.size; have := hb3.size; have := hb5.size; omega))).trans (hb7.mono (by have := hb1.size; have := hb3.size; have := hb5.size; have := hb6.size; omega)))⟩
theorem blocks_z {w : World} {g : Nat} (c0 : w.cell? ⟨g, 0, none⟩ = some (.int .i64 0)) : Calls Try.prog 17 #[.pointer (some ⟨g, 0, none⟩)] w fun e w' => e = .returned (.int .i64 0) ∧ w' = w := by
  go_enter Try.func17, Try.ntmps17
  go_wp2
  go_ret
  exact ⟨rfl, rfl⟩
theorem zero_cell (w : World) : (w.alloc zeroDev).cell? ⟨w.heap.size, 0, none⟩ = some (.int .i64 0) := by
  rw [cell_of_row _ _ _ _ _ _ (heap_alloc_new w zeroDev)]; rfl
theorem crash_n (v : Value) (w : World) : Calls Try.prog 25 #[.pointer none, v] w fun e w' => ∃ g, e = .returned (.pointer (some ⟨g, 0, none⟩)) ∧ w'.cell? ⟨g, 0, none⟩ = some (.int .i64 0) ∧ Below w.heap.size w w' := by
  refine (crash_nil v w).mono ?_
  rintro e w' ⟨rfl, rfl⟩
  exact ⟨_, rfl, zero_cell w, (Below.refl _ _).alloc (Nat.le_refl _) _⟩
theorem copy_n (w : World) : Calls Try.prog 26 #[.pointer none] w fun e w' => ∃ g, e = .returned (.pointer (some ⟨g, 0, none⟩)) ∧ w'.cell? ⟨g, 0, none⟩ = some (.int .i64 0) ∧ Below w.heap.size w w' := by
  refine (copy_nil w).mono ?_
  rintro e w' ⟨rfl, rfl⟩
  exact ⟨_, rfl, zero_cell w, (Below.refl _ _).alloc (Nat.le_refl _) _⟩
set_option maxHeartbeats 1000000 in
theorem deviceNothing_walk (a0 : Int) (v : Value) (w : World) (w0 : (Lit.int .i64 a0).wf = true) :
    Calls Try.prog 5 #[.int .i64 a0, v] w fun e w' => e = .returned (.bool true) ∧ Below w.heap.size w w' := by
  have tok1 : True := trivial
  go_enter Try.func5, Try.ntmps5
  go_wp2_with (first
    | (go_at_call 21; refine (cut_nil _ _).mono ?_; rintro e w1 ⟨⟨v1, rfl⟩, hw⟩; subst w1)
    | (go_at_call 18; refine (read_nil _ _).mono ?_; rintro e w1 ⟨rfl, hw⟩; subst w1)
    | (go_at_call 22; refine (write_nil _ _ _).mono ?_; rintro e w1 ⟨rfl, hw⟩; subst w1)
    | (go_at_call 23; refine (flush_nil _).mono ?_; rintro e w1 ⟨rfl, hw⟩; subst w1)
    | (go_at_call 24; refine (ops_nil _).mono ?_; rintro e w1 ⟨rfl, hw⟩; subst w1)
    | (go_at_call 17; have _t := tok1; refine (blocks_nil _).mono ?_; rintro e w1 ⟨rfl, hw⟩; subst w1; clear tok1 _t)
    | (go_at_call 25; refine (crash_n _ _).mono ?_; rintro e w3 ⟨g3, rfl, z3, b3⟩; have tok2 : True := trivial)
    | (go_at_call 17; have _t := tok2; refine (blocks_z z3).mono ?_; rintro e w1 ⟨rfl, hw⟩; subst w1; clear tok2 _t)
    | (go_at_call 26; refine (copy_n _).mono ?_; rintro e w4 ⟨g4, rfl, z4, b4⟩)
    | (go_at_call 17; refine (blocks_z z4).mono ?_; rintro e w1 ⟨rfl, hw⟩; subst w1)
    | (go_at_call 12; refine (awake_any _).mono ?_; rintro e w2 ⟨rfl, hb⟩))
  go_ret
  exact ⟨rfl, (b3.trans (b4.mono b3.size)).trans (hb.mono (by have := b3.size; have := b4.size; omega))⟩
end Go.Proofs.Ytlieckifnkngnaa
