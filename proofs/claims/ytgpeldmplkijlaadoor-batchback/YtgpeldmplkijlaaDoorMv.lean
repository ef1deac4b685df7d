/- batch's Move. -/
import Derived.Test.YtgpeldmplkijlaaDoorDq
namespace Go.Proofs.YtgpeldmplkijlaaDoor
set_option linter.unusedSimpArgs false
set_option linter.unusedVariables false
open Go.RowKit
/-- Bytes with another Base. -/
def movedL (l : List Nat) (z : Nat) : List Nat := putL (l.take 48) 0 8 true z ++ l.drop 48
theorem movedL_len (l : List Nat) (z : Nat) : (movedL l z).length = l.length := by
  unfold movedL
  rw [List.length_append, putL_length, List.length_take, List.length_drop]
  omega
theorem range_below {w w' : World} {b o : Nat} {cs : List Value} (h : w.rangeAt b o cs) (hb : Below w.heap.size w w') : w'.rangeAt b o cs := fun j v hj => by
  have h1 := h j v hj
  exact (hb.cell (World.block_lt_of_cell? _ _ h1)).trans h1
set_option maxHeartbeats 1600000 in
set_option maxRecDepth 100000 in
theorem move_ok (a : Option Addr) (cap : Nat) (l : List Nat) (z : Nat) (w : World) (ht : Tab w) (hr : Row w a l) (hl : l.length ≤ cap) (hc : cap ≤ maxLen) (hl2 : l.length ≤ 100000) (hok : OkB l) (hn : lenN l = l.length) (hz : z ≤ 1125899906842624) :
    Calls Tryd.prog 21 #[.slice a l.length cap, .int .i64 (z : Int)] w fun e w' => ∃ g, e = .returned (.tuple #[.slice (some ⟨g, 0, none⟩) (movedL l z).length (movedL l z).length, .int .i64 0]) ∧ Own w.heap.size w' g (movedL l z).length (movedL l z) ∧ Below w.heap.size w w' := by
  have h48 := hok.l48
  obtain ⟨pb, poff, rfl, hc0, _⟩ := hr 0 (by omega)
  have hpb : pb < w.heap.size := by have := World.block_lt_of_cell? _ _ hc0; simpa using this
  clear hc0
  have HD : Hid (∀ x, Tab x → Row x (some ⟨pb, poff, none⟩) l → Calls Tryd.prog 18 #[.slice (some ⟨pb, poff, none⟩) l.length cap] x fun e w' => ∃ a' c', e = .returned (.tuple #[bav (bOf l) a' c', .int .i64 (l.length : Int), .int .i64 0]) ∧ Below x.heap.size x w') := by
    intro x h1 h2
    refine (bdecode_any _ cap l x h1 h2 hl hc hl2).mono ?_
    rintro e w' ⟨q, _, hb⟩
    obtain ⟨a', c', rfl, _⟩ := q hok
    exact ⟨a', c', by rw [hn], hb⟩
  have HB : Hid (∀ x, Calls Tryd.prog 43 #[.int .i64 (z : Int)] x fun e w' => e = .returned (.bool true) ∧ w' = x) := by
    intro x
    have h2 := isBase_any (z : Int) x
    rw [show baseB (z : Int) = true by unfold baseB; exact decide_eq_true (by omega)] at h2
    exact h2
  obtain ⟨h, HHD⟩ : ∃ h, Hid (l.take 48 = h) := ⟨_, rfl⟩
  have hh48 : h.length = 48 := by rw [← HHD.out, List.length_take]; omega
  have hhm : ∀ i, h.getD i 0 < 256 := by rw [← HHD.out]; exact lt_mem (fun x hx => mem_lt (fun i => hr.lt i) x (List.mem_of_mem_take hx))
  have HRG : Hid (∀ y, Below w.heap.size w y → y.rangeAt pb poff (cv h)) := fun y hb => by rw [← HHD.out]; exact row_range (hr.below hb) 48
  have HIC : Hid ((Tryd.prog.info? 62).map (·.size) = some (cv h).length) := by show _ = _; rw [cv_length, hh48]; exact Tryd.info62
  have HW : Hid (∀ x, Calls Tryd.prog 29 #[.agg (cv h).toArray, .int .i64 0, .int .i64 8, .int .i64 (z : Int)] x fun e w' => e = .returned (.agg (cv (putL h 0 8 true z)).toArray) ∧ Below x.heap.size x w') := fun x => with_in h 0 8 z x hh48 hhm (by decide) (by decide) (by decide) (by omega)
  have h2len : (putL h 0 8 true z).length = 48 := by rw [putL_length, hh48]
  have HIC2 : Hid ((Tryd.prog.info? 62).map (·.size) = some (cv (putL h 0 8 true z)).length) := by show _ = _; rw [cv_length, h2len]; exact Tryd.info62
  have HSZ2 : Hid ((cv (putL h 0 8 true z)).toArray.size = 48) := arr_size (by rw [cv_length, h2len])
  have HLL : Hid ((l.drop 48).length = l.length - 48) := by show _ = _; rw [List.length_drop]
  have HJ : Hid (∀ y, Below w.heap.size w y → Calls Tryd.prog 32 #[.agg (cv (putL h 0 8 true z)).toArray, .slice (cutA (some ⟨pb, poff, none⟩) cap 48) (l.length - 48) (cap - 48)] y fun e w' => ∃ g, e = .returned (.slice (some ⟨g, 0, none⟩) (movedL l z).length (movedL l z).length) ∧ Own y.heap.size w' g (movedL l z).length (movedL l z) ∧ Below y.heap.size y w') := by
    intro y hb
    have h3 := bjoin_any (putL h 0 8 true z) (cutA (some ⟨pb, poff, none⟩) cap 48) (cap - 48) (l.drop 48) y h2len (putL_lt h 0 8 true z hhm) (row_cut cap 48 (hr.below hb) hl) (by rw [HLL.out]; omega)
    rw [HLL.out] at h3
    unfold movedL
    rw [HHD.out]
    exact h3
  generalize movedL l z = M at *
  generalize putL h 0 8 true z = h2 at *
  have ks0 := fun y => run_slice_head y ⟨pb, poff, none⟩ l.length cap (by omega)
  have ka := fun y => run_arrayAt y ⟨pb, poff, none⟩ cap
  have ks2 : ∀ y, (Instr.slice 27 (.slice (some ⟨pb, poff, none⟩) l.length cap) (some (.int .i64 48)) none none).run Tryd.prog y = .ok (.slice (cutA (some ⟨pb, poff, none⟩) cap 48) (l.length - 48) (cap - 48)) y := fun y => run_slice_from y _ l.length cap 48 .i64 (by omega)
  have HROW : Hid (Row w (some ⟨pb, poff, none⟩) l) := hr
  have HT : Hid (Tab w) := ht
  generalize bOf l = B at HD
  obtain ⟨c0, c1, c2, c3, rs⟩ := B
  simp only [bav] at HD
  clear hr ht hok hn hhm hh48 h2len hz
  go_enter Tryd.func21, Tryd.ntmps21
  go_wp2_with (first
    | (go_at_call 18; refine (HD.out _ HT.out HROW.out).mono ?_; rintro e w1 ⟨a1, k1, rfl, hb1⟩; have HB1 : Hid (Below w.heap.size w w1) := hb1; clear hb1)
    | (go_at_call 43; refine (HB.out _).mono ?_; rintro e w2 ⟨rfl, hw⟩; subst w2)
    | (have _t := HB1; refine wpList_load_mid rfl 62 _ rfl pb poff rfl (cv h) _ (HRG.out _ (HB1.out.alloc HB1.out.size _)) Tryd.underlying62 rfl HIC.out ?_)
    | (go_at_call 29; refine (HW.out _).mono ?_; rintro e w3 ⟨rfl, hb3⟩; have HB3 : Hid (Below w.heap.size w w3) := (HB1.out.alloc HB1.out.size _).trans (hb3.mono (by have := HB1.out.size; simp; omega)); clear hb3 HB1)
    | (have _t := HB3; refine wpList_store_row rfl 62 _ _ rfl w3.heap.size (cv h2).toArray rfl rfl 62 #[.int .u8 0, .int .u8 0, .int .u8 0, .int .u8 0, .int .u8 0, .int .u8 0, .int .u8 0, .int .u8 0, .int .u8 0, .int .u8 0, .int .u8 0, .int .u8 0, .int .u8 0, .int .u8 0, .int .u8 0, .int .u8 0, .int .u8 0, .int .u8 0, .int .u8 0, .int .u8 0, .int .u8 0, .int .u8 0, .int .u8 0, .int .u8 0, .int .u8 0, .int .u8 0, .int .u8 0, .int .u8 0, .int .u8 0, .int .u8 0, .int .u8 0, .int .u8 0, .int .u8 0, .int .u8 0, .int .u8 0, .int .u8 0, .int .u8 0, .int .u8 0, .int .u8 0, .int .u8 0, .int .u8 0, .int .u8 0, .int .u8 0, .int .u8 0, .int .u8 0, .int .u8 0, .int .u8 0, .int .u8 0] (heap_alloc_new w3 _) (by rw [HSZ2.out]; exact Tryd.info62) (by rw [HSZ2.out]; rfl) (arr_one h2) ?_))
  have HZR : Hid (((w3.alloc (.cells #[.int .u8 0, .int .u8 0, .int .u8 0, .int .u8 0, .int .u8 0, .int .u8 0, .int .u8 0, .int .u8 0, .int .u8 0, .int .u8 0, .int .u8 0, .int .u8 0, .int .u8 0, .int .u8 0, .int .u8 0, .int .u8 0, .int .u8 0, .int .u8 0, .int .u8 0, .int .u8 0, .int .u8 0, .int .u8 0, .int .u8 0, .int .u8 0, .int .u8 0, .int .u8 0, .int .u8 0, .int .u8 0, .int .u8 0, .int .u8 0, .int .u8 0, .int .u8 0, .int .u8 0, .int .u8 0, .int .u8 0, .int .u8 0, .int .u8 0, .int .u8 0, .int .u8 0, .int .u8 0, .int .u8 0, .int .u8 0, .int .u8 0, .int .u8 0, .int .u8 0, .int .u8 0, .int .u8 0, .int .u8 0] 62)).setRow w3.heap.size (cv h2).toArray).rangeAt w3.heap.size 0 (cv h2)) := by
    intro j v hj
    rw [cell_of_row _ w3.heap.size (0 + j) (cv h2).toArray 62 (0, 0) (setRow_heap _ _ _ _ _ _ (heap_alloc_new w3 _))]
    simpa using hj
  have HZB : Hid (Below w.heap.size w ((w3.alloc (.cells #[.int .u8 0, .int .u8 0, .int .u8 0, .int .u8 0, .int .u8 0, .int .u8 0, .int .u8 0, .int .u8 0, .int .u8 0, .int .u8 0, .int .u8 0, .int .u8 0, .int .u8 0, .int .u8 0, .int .u8 0, .int .u8 0, .int .u8 0, .int .u8 0, .int .u8 0, .int .u8 0, .int .u8 0, .int .u8 0, .int .u8 0, .int .u8 0, .int .u8 0, .int .u8 0, .int .u8 0, .int .u8 0, .int .u8 0, .int .u8 0, .int .u8 0, .int .u8 0, .int .u8 0, .int .u8 0, .int .u8 0, .int .u8 0, .int .u8 0, .int .u8 0, .int .u8 0, .int .u8 0, .int .u8 0, .int .u8 0, .int .u8 0, .int .u8 0, .int .u8 0, .int .u8 0, .int .u8 0, .int .u8 0] 62)).setRow w3.heap.size (cv h2).toArray)) := below_setRow (HB3.out.alloc HB3.out.size _) HB3.out.size _
  generalize (w3.alloc (.cells #[.int .u8 0, .int .u8 0, .int .u8 0, .int .u8 0, .int .u8 0, .int .u8 0, .int .u8 0, .int .u8 0, .int .u8 0, .int .u8 0, .int .u8 0, .int .u8 0, .int .u8 0, .int .u8 0, .int .u8 0, .int .u8 0, .int .u8 0, .int .u8 0, .int .u8 0, .int .u8 0, .int .u8 0, .int .u8 0, .int .u8 0, .int .u8 0, .int .u8 0, .int .u8 0, .int .u8 0, .int .u8 0, .int .u8 0, .int .u8 0, .int .u8 0, .int .u8 0, .int .u8 0, .int .u8 0, .int .u8 0, .int .u8 0, .int .u8 0, .int .u8 0, .int .u8 0, .int .u8 0, .int .u8 0, .int .u8 0, .int .u8 0, .int .u8 0, .int .u8 0, .int .u8 0, .int .u8 0, .int .u8 0] 62)).setRow w3.heap.size (cv h2).toArray = Z at HZR HZB ⊢
  obtain ⟨X, HXX⟩ : ∃ X, Hid (w3.heap.size = X) := ⟨_, rfl⟩
  rw [HXX.out] at HZR ⊢
  have hS0 : (fun y : World => y.rangeAt X 0 (cv h2) ∧ Below w.heap.size w y) Z.drew := ⟨by have := HZR.out; simpa using this, HZB.out.drew⟩
  refine wp_region_lat (fun y : World => y.rangeAt X 0 (cv h2) ∧ Below w.heap.size w y) 5 (by kernel_rfl) hS0 (fun hHeld => ?_)
  clear hS0
  refine lat_load 0 rfl (by kernel_rfl) (by kernel_rfl) (by kernel_rfl) (by kernel_rfl) (fun _ _ _ _ h => h) (by rfl) 62 _ rfl X 0 rfl (cv h2) _ (fun y hy => hy.1) Tryd.underlying62 rfl HIC2.out (by assumption) ?_
  try simp only [Act.put, List.setIfInBounds_toArray, List.set_cons_zero, List.set_cons_succ]
  refine lat_take 1 (v := ?_) rfl (by kernel_rfl) (by kernel_rfl) (by kernel_rfl) (by kernel_rfl) (fun _ _ _ h => h) (by rfl) ?_ (by assumption) ?_
  rotate_left
  · (intro y hSy; go_simp <;> with_reducible rfl)
  try simp only [Act.put, List.setIfInBounds_toArray, List.set_cons_zero, List.set_cons_succ]
  refine lat_take 2 (v := ?_) rfl (by kernel_rfl) (by kernel_rfl) (by kernel_rfl) (by kernel_rfl) (fun _ _ _ h => h) (by rfl) ?_ (by assumption) ?_
  rotate_left
  · (intro y hSy; go_simp <;> with_reducible rfl)
  try simp only [Act.put, List.setIfInBounds_toArray, List.set_cons_zero, List.set_cons_succ]
  refine lat_one 3 rfl (by kernel_rfl) (by decide) (by rfl) (fun K hK => ?_)
  go_simp
  refine Calls.mono (HJ.out _ hHeld.2) ?_
  rintro e w5 ⟨g5, rfl, hown5, hb5⟩
  try dsimp only
  have hS5 : (fun y : World => y.rangeAt X 0 (cv h2) ∧ Below w.heap.size w y) w5 := ⟨range_below hHeld.1 hb5, hHeld.2.trans (hb5.mono hHeld.2.size)⟩
  have HO5 : Hid (Own w.heap.size w5 g5 M.length M) := own_le hown5 hHeld.2.size
  refine hK.out _ _ hS5 (fun hS6 => ?_)
  clear hK hHeld hown5 hb5 hS5
  try simp only [Act.put, List.setIfInBounds_toArray, List.set_cons_zero, List.set_cons_succ]
  refine lat_one 4 rfl (by kernel_rfl) (by decide) (by rfl) (fun K hK => ?_)
  go_simp
  try dsimp only
  refine hK.out _ _ hS6 (fun hS7 => ?_)
  clear hK
  try simp only [Act.put, List.setIfInBounds_toArray, List.set_cons_zero, List.set_cons_succ]
  refine lat_last 5 rfl (by kernel_rfl) (by decide) (by kernel_rfl) (by rfl) (fun K hK => ?_)
  go_simp
  try dsimp only
  refine hK.out _ _ ?_
  clear hK
  try simp only [Act.put, List.setIfInBounds_toArray, List.set_cons_zero, List.set_cons_succ]
  go_wp2_with fail
  go_ret2
  exact ⟨g5, rfl, HO5.out, hS7.2⟩
set_option maxHeartbeats 800000 in
set_option maxRecDepth 100000 in
theorem move_arg (a : Option Addr) (cap : Nat) (l : List Nat) (z : Int) (w : World) (ht : Tab w) (hr : Row w a l) (hl : l.length ≤ cap) (hc : cap ≤ maxLen) (hl2 : l.length ≤ 100000) (hok : OkB l) (hn : lenN l = l.length) (hz : baseB z = false) :
    Calls Tryd.prog 21 #[.slice a l.length cap, .int .i64 z] w fun e w' => e = .returned (.tuple #[.slice none 0 0, .int .i64 1]) ∧ Below w.heap.size w w' := by
  have HD : Hid (∀ x, Tab x → Row x a l → Calls Tryd.prog 18 #[.slice a l.length cap] x fun e w' => ∃ a' c', e = .returned (.tuple #[bav (bOf l) a' c', .int .i64 (l.length : Int), .int .i64 0]) ∧ Below x.heap.size x w') := by
    intro x h1 h2
    refine (bdecode_any _ cap l x h1 h2 hl hc hl2).mono ?_
    rintro e w' ⟨q, _, hb⟩
    obtain ⟨a', c', rfl, _⟩ := q hok
    exact ⟨a', c', by rw [hn], hb⟩
  have HB : Hid (∀ x, Calls Tryd.prog 43 #[.int .i64 z] x fun e w' => e = .returned (.bool false) ∧ w' = x) := by
    intro x
    have h2 := isBase_any z x
    rw [hz] at h2
    exact h2
  have HROW : Hid (Row w a l) := hr
  have HT : Hid (Tab w) := ht
  generalize bOf l = B at HD
  obtain ⟨c0, c1, c2, c3, rs⟩ := B
  simp only [bav] at HD
  clear hr ht hok hn hz
  go_enter Tryd.func21, Tryd.ntmps21
  go_wp2_with (first
    | (go_at_call 18; refine (HD.out _ HT.out HROW.out).mono ?_; rintro e w1 ⟨a1, k1, rfl, hb1⟩; have HB1 : Hid (Below w.heap.size w w1) := hb1; clear hb1)
    | (go_at_call 43; refine (HB.out _).mono ?_; rintro e w2 ⟨rfl, hw⟩; subst w2))
  go_ret2
  exact ⟨rfl, HB1.out.alloc HB1.out.size _⟩
end Go.Proofs.YtgpeldmplkijlaaDoor
