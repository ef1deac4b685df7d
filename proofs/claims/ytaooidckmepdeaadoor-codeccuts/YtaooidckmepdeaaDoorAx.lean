/- awake, the walk. -/
import Derived.Test.YtaooidckmepdeaaDoorAw
namespace Go.Proofs.YtaooidckmepdeaaDoor
set_option linter.unusedSimpArgs false
set_option linter.unusedVariables false
open Go.RowKit
theorem below_drewN {B : Nat} {a w : World} (h : Below B a w) (n : Nat) : Below B a (w.drewN n) := by
  induction n with
  | zero => exact h
  | succ k ih => exact ih.drew
set_option maxHeartbeats 400000 in
set_option maxRecDepth 100000 in
theorem aw_q : ∀ x, Tab x → Calls Tryd.prog 11 #[.agg #[.int .i64 2, .int .i64 7, .string ⟨#[97]⟩, .int .i64 0, .int .i64 0, .int .i64 0, .int .i64 0, .int .i64 0, .bool false, .int .i64 0, .int .i64 0, .int .i64 0, .slice none 0 0, .int .i64 0, .int .i64 0, .int .i64 0, .string ⟨#[]⟩]] x fun e w' => ∃ a c, e = .returned (.tuple #[.slice a 8 c, .int .i64 0]) ∧ Row w' a [2, 0, 0, 0, 7, 0, 1, 97] ∧ Below x.heap.size x w' := fun x hx => by
    have q := request_any 2 7 bA false none 0 x (by unfold In64; decide) (by unfold In64; decide) bA_q (bdok_plain x hx rfl rfl rfl rfl (fun f => by unfold bA setB bdz; split <;> decide) (by unfold In64; decide))
    rw [bA_e] at q
    refine Calls.mono q ?_
    intro e w' h
    obtain ⟨a, c, e1, r, _, _, b⟩ := EncP.some h
    exact ⟨a, c, e1, r, b⟩
set_option maxHeartbeats 400000 in
set_option maxRecDepth 100000 in
theorem aw_p : ∀ y, Tab y → Calls Tryd.prog 15 #[.slice (some ⟨y.heap.size, 0, none⟩) 1 1] (y.alloc (.cells #[.int .u8 2] 5)) fun e w' => e = .returned (.tuple #[.agg #[.int .i64 0, .int .i64 0, .string ⟨#[]⟩, .int .i64 0, .int .i64 0, .int .i64 0, .int .i64 0, .int .i64 0, .bool false, .int .i64 0, .int .i64 0, .int .i64 0, .slice none 0 0, .int .i64 0, .int .i64 0, .int .i64 0, .string ⟨#[]⟩], .int .i64 13]) ∧ Below y.heap.size y w' := fun y hy => by
    have q := parseQ_any (y.alloc (.cells #[.int .u8 2] 5)) (some ⟨y.heap.size, 0, none⟩) 1 [2] (hy.below (below_box _)) (head_row y 2 (by decide)).1 (by decide) (by decide) (fun e => by cases e) (by decide)
    rw [two_no] at q
    refine Calls.mono q ?_
    rintro e w' ⟨hb, h1, _⟩
    exact ⟨h1 rfl, (below_box _).trans (hb.mono (by simp))⟩
set_option maxHeartbeats 400000 in
set_option maxRecDepth 100000 in
theorem aw_b : ∀ y a c, Row y a [2, 0, 0, 0, 7, 0, 1, 97] → Calls Tryd.prog 13 #[.slice a 8 c, .slice (some ⟨y.heap.size, 0, none⟩) 8 8] (y.alloc (.cells #[.int .u8 2, .int .u8 0, .int .u8 0, .int .u8 0, .int .u8 7, .int .u8 0, .int .u8 1, .int .u8 97] 5)) fun e w' => e = .returned (.bool true) ∧ Below y.heap.size y w' := fun y a c hr => by
    have q := bytes_any a c [2, 0, 0, 0, 7, 0, 1, 97] (some ⟨y.heap.size, 0, none⟩) 8 [2, 0, 0, 0, 7, 0, 1, 97] (y.alloc (.cells #[.int .u8 2, .int .u8 0, .int .u8 0, .int .u8 0, .int .u8 7, .int .u8 0, .int .u8 1, .int .u8 97] 5)) (hr.below (below_box _)) (row_alloc y [2, 0, 0, 0, 7, 0, 1, 97] (lt_mem (by decide))) (by decide) (by decide)
    refine Calls.mono q ?_
    rintro e w' h
    exact (by obtain ⟨e1, n, rfl⟩ := h; exact ⟨by rw [e1]; rfl, below_drewN (below_box _) n⟩)
set_option maxHeartbeats 400000 in
set_option maxRecDepth 100000 in
theorem awake_any (w : World) (ht : Tab w) : Calls Tryd.prog 10 #[] w fun e w' => e = .returned (.bool true) ∧ Below w.heap.size w w' := by
  have HQ : Hid (∀ x, Tab x → Calls Tryd.prog 11 #[.agg #[.int .i64 2, .int .i64 7, .string ⟨#[97]⟩, .int .i64 0, .int .i64 0, .int .i64 0, .int .i64 0, .int .i64 0, .bool false, .int .i64 0, .int .i64 0, .int .i64 0, .slice none 0 0, .int .i64 0, .int .i64 0, .int .i64 0, .string ⟨#[]⟩]] x fun e w' => ∃ a c, e = .returned (.tuple #[.slice a 8 c, .int .i64 0]) ∧ Row w' a [2, 0, 0, 0, 7, 0, 1, 97] ∧ Below x.heap.size x w') := aw_q
  have HP : Hid (∀ y, Tab y → Calls Tryd.prog 15 #[.slice (some ⟨y.heap.size, 0, none⟩) 1 1] (y.alloc (.cells #[.int .u8 2] 5)) fun e w' => e = .returned (.tuple #[.agg #[.int .i64 0, .int .i64 0, .string ⟨#[]⟩, .int .i64 0, .int .i64 0, .int .i64 0, .int .i64 0, .int .i64 0, .bool false, .int .i64 0, .int .i64 0, .int .i64 0, .slice none 0 0, .int .i64 0, .int .i64 0, .int .i64 0, .string ⟨#[]⟩], .int .i64 13]) ∧ Below y.heap.size y w') := aw_p
  have HB : Hid (∀ y a c, Row y a [2, 0, 0, 0, 7, 0, 1, 97] → Calls Tryd.prog 13 #[.slice a 8 c, .slice (some ⟨y.heap.size, 0, none⟩) 8 8] (y.alloc (.cells #[.int .u8 2, .int .u8 0, .int .u8 0, .int .u8 0, .int .u8 7, .int .u8 0, .int .u8 1, .int .u8 97] 5)) fun e w' => e = .returned (.bool true) ∧ Below y.heap.size y w') := aw_b
  obtain ⟨CZ, HCZ⟩ : ∃ CZ : Array Value, Hid (#[.int .i64 0, .int .i64 0, .string ⟨#[]⟩, .int .i64 0, .int .i64 0, .int .i64 0, .int .i64 0, .int .i64 0, .bool false, .int .i64 0, .int .i64 0, .int .i64 0, .slice none 0 0, .int .i64 0, .int .i64 0, .int .i64 0, .string ⟨#[]⟩] = CZ) := ⟨_, rfl⟩
  have HZ1 : Hid (CZ.size = 17) := by rw [← HCZ.out]; rfl
  have HZ2 : Hid (CZ.all (·.oneCell') = true) := by show _ = _; rw [← HCZ.out]; kernel_rfl
  rw [HCZ.out] at HP
  have HT : Hid (Tab w) := ht
  clear ht
  go_enter Tryd.func10, Tryd.ntmps10
  go_wp2_with (first
    | (go_at_call 11; refine (HQ.out _ HT.out).mono ?_; rintro e w1 ⟨a1, c1, rfl, hr1, hb1⟩; have HR1 : Hid (Row w1 a1 [2, 0, 0, 0, 7, 0, 1, 97]) := hr1; have HB1 : Hid (Below w.heap.size w w1) := hb1; have HT1 : Hid (Tab w1) := HT.out.below hb1; clear hr1 hb1)
    | (go_at_call 15; refine (HP.out _ HT1.out).mono ?_; rintro e w2 ⟨rfl, hb2⟩; have HR2 : Hid (Row w2 a1 [2, 0, 0, 0, 7, 0, 1, 97]) := HR1.out.below hb2; have HB2 : Hid (Below w.heap.size w w2) := HB1.out.trans (hb2.mono HB1.out.size); have tok2 : True := trivial; clear hb2)
    | (have _h := tok2; refine wpList_store_row rfl 26 _ _ rfl w2.heap.size CZ rfl rfl 26 #[.int .i64 0, .int .i64 0, .string ⟨#[]⟩, .int .i64 0, .int .i64 0, .int .i64 0, .int .i64 0, .int .i64 0, .bool false, .int .i64 0, .int .i64 0, .int .i64 0, .slice none 0 0, .int .i64 0, .int .i64 0, .int .i64 0, .string ⟨#[]⟩] (heap_alloc_new w2 _) (by rw [HZ1.out]; exact Tryd.info26) (by rw [HZ1.out]; rfl) HZ2.out ?_; obtain ⟨hb9, hl9⟩ := box_new w2 #[.int .i64 0, .int .i64 0, .string ⟨#[]⟩, .int .i64 0, .int .i64 0, .int .i64 0, .int .i64 0, .int .i64 0, .bool false, .int .i64 0, .int .i64 0, .int .i64 0, .slice none 0 0, .int .i64 0, .int .i64 0, .int .i64 0, .string ⟨#[]⟩] CZ 26; generalize World.setRow _ w2.heap.size CZ = w4 at *; have HR4 : Hid (Row w4 a1 [2, 0, 0, 0, 7, 0, 1, 97]) := HR2.out.below hl9; have HB4 : Hid (Below w.heap.size w w4) := HB2.out.trans (hl9.mono HB2.out.size); clear hb9 hl9 _h tok2)
    | (go_at_call 13; refine (HB.out _ _ _ HR4.out).mono ?_; rintro e w3 ⟨rfl, hb3⟩; have HB3 : Hid (Below w.heap.size w w3) := HB4.out.trans (hb3.mono HB4.out.size); clear hb3))
  go_ret
  exact ⟨rfl, HB3.out⟩
end Go.Proofs.YtaooidckmepdeaaDoor
