/- The walk of LayoutBytes: true for every argument. -/
import Derived.Test.YtbiniohacnaieaaDoorDr
namespace Go.Proofs.YtbiniohacnaieaaDoor
set_option linter.unusedSimpArgs false
set_option linter.unusedVariables false
open Go.RowKit
theorem Tab.alloc {w : World} (h : Tab w) (o : Obj) : Tab (w.alloc o) := h.below ((Below.refl _ _).alloc (Nat.le_refl _) _)
structure PlOk (p : Pl) : Prop where
  x0 : (Lit.int .i64 p.bl).wf = true
  x1 : (Lit.int .i64 p.ino).wf = true
  x2 : (Lit.int .i64 p.im).wf = true
  x3 : (Lit.int .i64 p.bm).wf = true
  x4 : (Lit.int .i64 p.tb).wf = true
  x5 : (Lit.int .i64 p.da).wf = true
  x6 : (Lit.int .i64 p.dc).wf = true
set_option maxRecDepth 100000 in
set_option maxHeartbeats 1000000 in
theorem layoutBytes_walk (a0 : Pl) (a1 : Option Addr) (cap1 : Nat) (l1 : List Nat) (w : World) (ht : Tab w) (hh : Hol w) (w0 : PlOk a0) (w1 : Row w a1 l1) (m1 : l1.length ≤ maxLen) (c1 : l1.length ≤ cap1) (n1 : a1 = none → cap1 = 0) :
    Calls Tryd.prog 4 #[a0.v, .slice a1 l1.length cap1] w fun e w' => e = .returned (.bool true) ∧ Below w.heap.size w w' := by
  clear w0 c1 n1
  have hm := m1
  unfold maxLen at hm
  have hb0 : Below w.heap.size w (w.alloc (.cells (pv a0) 23)) := (Below.refl _ _).alloc (Nat.le_refl _) _
  by_cases hl : 2000 < l1.length
  · have hlI : 2000 < (l1.length : Int) := by omega
    obtain ⟨q1, q2, q3, q4, q5, q6, q7⟩ := a0
    simp only [Pl.v]
    go_enter Tryd.func4, Tryd.ntmps4
    go_wp2_with (go_at_call 11; refine (awake_any _ (hh.alloc _)).mono ?_; rintro x v4 ⟨rfl, hb6⟩; have hb7 := hb0.trans (hb6.mono hb0.size))
    go_ret
    exact ⟨rfl, hb7⟩
  have hlI : ¬ 2000 < (l1.length : Int) := by omega
  have KD := fun w' t h r => decode_any a1 cap1 l1 w' t h r m1
  have KR := fun w' r => rdecode_any a1 cap1 l1 w' r (by omega)
  generalize decP l1 = q at *
  generalize decE l1 = c at *
  obtain ⟨p1, p2, p3, p4, p5, p6, p7⟩ := q
  obtain ⟨E, HEE⟩ : ∃ E, Hid (encL (nums a0) = E) := ⟨_, rfl⟩
  have hEl : E.length = 512 := by rw [← HEE.out, encL_len]
  have HB : Hid (∀ i, E.getD i 0 < 256) := by rw [← HEE.out]; exact encL_lt _
  have KE := encode_any a0
  have KF := rencode_any a0
  rw [HEE.out] at KE KF
  have KB := fun g g' cp w' (h1 : Row w' (some ⟨g, 0, none⟩) E) (h2 : Row w' (some ⟨g', 0, none⟩) E) => bytes_any (some ⟨g, 0, none⟩) 512 E (some ⟨g', 0, none⟩) cp E w' h1 h2 (by rw [hEl]; decide) (by rw [hEl]; decide)
  rw [hEl] at KB
  simp only [decide_true] at KB
  have HKD : Hid _ := KD
  have HKR : Hid _ := KR
  have HKE : Hid _ := KE
  have HKF : Hid _ := KF
  have HKB : Hid _ := KB
  clear KD KR KE KF KB hEl HEE m1 hm
  obtain ⟨q1, q2, q3, q4, q5, q6, q7⟩ := a0
  simp only [Pl.v] at HKE HKF ⊢
  have ht0 := ht.below hb0
  have hh0 := hh.below hb0
  have w10 := w1.below hb0
  have hbx0 := box_new w ⟨q1, q2, q3, q4, q5, q6, q7⟩
  have e1 := eqI p1
  have e2 := eqI p2
  have e3 := eqI p3
  have e4 := eqI p4
  have e5 := eqI p5
  have e6 := eqI p6
  have e7 := eqI p7
  have ec := eqI c
  go_enter Tryd.func4, Tryd.ntmps4
  go_wp2_with (first
    | (go_at_call 12; refine (HKD.out _ ht0 hh0 w10).mono ?_; rintro e v1 ⟨rfl, hb1⟩; have hB0 := hbx0.below hb1; have hb2 := hb0.trans (hb1.mono hb0.size); have r1 := w10.below hb1; clear hb1; simp only [Pl.v])
    | (go_at_call 13; refine (HKR.out _ (r1.below ((Below.refl _ _).alloc (Nat.le_refl _) _))).mono ?_; rintro e v2 ⟨rfl, hb3⟩; have hBQ := (box_new v1 ⟨p1, p2, p3, p4, p5, p6, p7⟩).below hb3; have hB2 := (hB0.below ((Below.refl _ _).alloc (Nat.le_refl _) _)).below hb3; have hb4 : Below w.heap.size w v2 := (hb2.alloc hb2.size _).trans (hb3.mono (by have := hb2.size; simp; omega)); clear hb3 hB0 r1; simp only [Pl.v]))
  obtain ⟨V, hV⟩ : ∃ V, V = v2.alloc (.cells (pv ⟨p1, p2, p3, p4, p5, p6, p7⟩) 23) := ⟨_, rfl⟩
  have HSx : Hid (∀ y, Below V.heap.size V y → BoxAt y w.heap.size ⟨q1, q2, q3, q4, q5, q6, q7⟩ ∧ BoxAt y v1.heap.size ⟨p1, p2, p3, p4, p5, p6, p7⟩ ∧ BoxAt y v2.heap.size ⟨p1, p2, p3, p4, p5, p6, p7⟩) := fun y hy => by
    have hA : Below v2.heap.size v2 V := by rw [hV]; exact (Below.refl _ _).alloc (Nat.le_refl _) _
    refine ⟨(hB2.below hA).below hy, (hBQ.below hA).below hy, ?_⟩
    have hn : BoxAt V v2.heap.size ⟨p1, p2, p3, p4, p5, p6, p7⟩ := by rw [hV]; exact box_new v2 ⟨p1, p2, p3, p4, p5, p6, p7⟩
    exact hn.below hy
  have hbV : Below w.heap.size w V := by rw [hV]; exact hb4.alloc hb4.size _
  have hD : Below V.heap.size V V.drew := ⟨rfl, rfl, rfl, Nat.le_refl _, fun _ _ => rfl⟩
  clear hB2 hBQ
  have eV : v2.alloc (.cells #[.int .i64 p1, .int .i64 p2, .int .i64 p3, .int .i64 p4, .int .i64 p5, .int .i64 p6, .int .i64 p7] 23) = V := hV.symm
  rw [eV]
  clear eV hV
  have hWD := hbV.trans (hD.mono hbV.size)
  refine wp_region_lat (fun y => BoxAt y w.heap.size ⟨q1, q2, q3, q4, q5, q6, q7⟩ ∧ BoxAt y v1.heap.size ⟨p1, p2, p3, p4, p5, p6, p7⟩ ∧ BoxAt y v2.heap.size ⟨p1, p2, p3, p4, p5, p6, p7⟩) 18 (by kernel_rfl) (HSx.out _ hD) (fun hHeld => ?_)
  refine lat_take 0 (v := ?_) rfl (by kernel_rfl) (by kernel_rfl) (by kernel_rfl) (by kernel_rfl) (fun _ _ _ h => h) (by rfl) ?_ (by assumption) ?_
  rotate_left
  · (intro w hSw; obtain ⟨⟨z0, z1, z2, z3, z4, z5, z6⟩, ⟨y0, y1, y2, y3, y4, y5, y6⟩, ⟨x0, x1, x2, x3, x4, x5, x6⟩⟩ := hSw; go_simp <;> with_reducible rfl)
  try simp only [Act.put, List.setIfInBounds_toArray, List.set_cons_zero, List.set_cons_succ]
  refine lat_take 2 (v := ?_) rfl (by kernel_rfl) (by kernel_rfl) (by kernel_rfl) (by kernel_rfl) (fun _ _ _ h => h) (by rfl) ?_ (by assumption) ?_
  rotate_left
  · (intro w hSw; obtain ⟨⟨z0, z1, z2, z3, z4, z5, z6⟩, ⟨y0, y1, y2, y3, y4, y5, y6⟩, ⟨x0, x1, x2, x3, x4, x5, x6⟩⟩ := hSw; go_simp <;> with_reducible rfl)
  try simp only [Act.put, List.setIfInBounds_toArray, List.set_cons_zero, List.set_cons_succ]
  refine lat_one 1 rfl (by kernel_rfl) (by decide) (by rfl) (fun K hK => ?_)
  go_simp
  refine Calls.mono (HKE.out _ (ht.below hWD)) ?_
  rintro e v3 ⟨⟨g, rfl, hown⟩, hb5⟩
  have hb6 : Below V.heap.size V v3 := hD.trans (hb5.mono hD.size)
  have hrE := hown.row HB.out
  dsimp only
  refine hK.out _ _ (HSx.out _ hb6) (fun hHeld2 => ?_)
  clear hK hHeld hb5 hown hD
  try simp only [Act.put, List.setIfInBounds_toArray, List.set_cons_zero, List.set_cons_succ]
  refine lat_one 3 rfl (by kernel_rfl) (by decide) (by rfl) (fun K hK => ?_)
  go_simp
  refine Calls.mono (HKF.out _) ?_
  rintro e v4 ⟨⟨g', cp, rfl, hown⟩, hb7⟩
  have hb8 : Below V.heap.size V v4 := hb6.trans (hb7.mono hb6.size)
  have hrF := hown.row HB.out
  have hrE4 := hrE.below hb7
  dsimp only
  refine hK.out _ _ (HSx.out _ hb8) (fun hHeld3 => ?_)
  clear hK hHeld2 hb7 hown hrE hb6
  try simp only [Act.put, List.setIfInBounds_toArray, List.set_cons_zero, List.set_cons_succ]
  refine lat_one 4 rfl (by kernel_rfl) (by decide) (by rfl) (fun K hK => ?_)
  go_simp
  refine Calls.mono (HKB.out _ _ _ _ hrE4 hrF) ?_
  rintro e v5 ⟨rfl, nn, rfl⟩
  have hb9 : Below V.heap.size V (v4.drewN nn) := ⟨hb8.os, hb8.tape, hb8.output, hb8.size, hb8.block⟩
  dsimp only
  refine hK.out _ _ (HSx.out _ hb9) (fun hHeld4 => ?_)
  clear hK hHeld3
  try simp only [Act.put, List.setIfInBounds_toArray, List.set_cons_zero, List.set_cons_succ]
  refine lat_take 5 (v := ?_) rfl (by kernel_rfl) (by kernel_rfl) (by kernel_rfl) (by kernel_rfl) (fun _ _ _ h => h) (by rfl) ?_ (by assumption) ?_
  rotate_left
  · (intro w hSw; obtain ⟨⟨z0, z1, z2, z3, z4, z5, z6⟩, ⟨y0, y1, y2, y3, y4, y5, y6⟩, ⟨x0, x1, x2, x3, x4, x5, x6⟩⟩ := hSw; go_simp <;> with_reducible rfl)
  try simp only [Act.put, List.setIfInBounds_toArray, List.set_cons_zero, List.set_cons_succ]
  refine lat_take 6 (v := ?_) rfl (by kernel_rfl) (by kernel_rfl) (by kernel_rfl) (by kernel_rfl) (fun _ _ _ h => h) (by rfl) ?_ (by assumption) ?_
  rotate_left
  · (intro w hSw; obtain ⟨⟨z0, z1, z2, z3, z4, z5, z6⟩, ⟨y0, y1, y2, y3, y4, y5, y6⟩, ⟨x0, x1, x2, x3, x4, x5, x6⟩⟩ := hSw; go_simp <;> with_reducible rfl)
  try simp only [Act.put, List.setIfInBounds_toArray, List.set_cons_zero, List.set_cons_succ]
  refine lat_take 7 (v := ?_) rfl (by kernel_rfl) (by kernel_rfl) (by kernel_rfl) (by kernel_rfl) (fun _ _ _ h => h) (by rfl) ?_ (by assumption) ?_
  rotate_left
  · (intro w hSw; obtain ⟨⟨z0, z1, z2, z3, z4, z5, z6⟩, ⟨y0, y1, y2, y3, y4, y5, y6⟩, ⟨x0, x1, x2, x3, x4, x5, x6⟩⟩ := hSw; go_simp <;> with_reducible rfl)
  try simp only [Act.put, List.setIfInBounds_toArray, List.set_cons_zero, List.set_cons_succ]
  refine lat_take 8 (v := ?_) rfl (by kernel_rfl) (by kernel_rfl) (by kernel_rfl) (by kernel_rfl) (fun _ _ _ h => h) (by rfl) ?_ (by assumption) ?_
  rotate_left
  · (intro w hSw; obtain ⟨⟨z0, z1, z2, z3, z4, z5, z6⟩, ⟨y0, y1, y2, y3, y4, y5, y6⟩, ⟨x0, x1, x2, x3, x4, x5, x6⟩⟩ := hSw; go_simp <;> with_reducible rfl)
  try simp only [Act.put, List.setIfInBounds_toArray, List.set_cons_zero, List.set_cons_succ]
  refine lat_take 9 (v := ?_) rfl (by kernel_rfl) (by kernel_rfl) (by kernel_rfl) (by kernel_rfl) (fun _ _ _ h => h) (by rfl) ?_ (by assumption) ?_
  rotate_left
  · (intro w hSw; obtain ⟨⟨z0, z1, z2, z3, z4, z5, z6⟩, ⟨y0, y1, y2, y3, y4, y5, y6⟩, ⟨x0, x1, x2, x3, x4, x5, x6⟩⟩ := hSw; go_simp <;> with_reducible rfl)
  try simp only [Act.put, List.setIfInBounds_toArray, List.set_cons_zero, List.set_cons_succ]
  refine lat_take 10 (v := ?_) rfl (by kernel_rfl) (by kernel_rfl) (by kernel_rfl) (by kernel_rfl) (fun _ _ _ h => h) (by rfl) ?_ (by assumption) ?_
  rotate_left
  · (intro w hSw; obtain ⟨⟨z0, z1, z2, z3, z4, z5, z6⟩, ⟨y0, y1, y2, y3, y4, y5, y6⟩, ⟨x0, x1, x2, x3, x4, x5, x6⟩⟩ := hSw; go_simp <;> with_reducible rfl)
  try simp only [Act.put, List.setIfInBounds_toArray, List.set_cons_zero, List.set_cons_succ]
  refine lat_take 11 (v := ?_) rfl (by kernel_rfl) (by kernel_rfl) (by kernel_rfl) (by kernel_rfl) (fun _ _ _ h => h) (by rfl) ?_ (by assumption) ?_
  rotate_left
  · (intro w hSw; obtain ⟨⟨z0, z1, z2, z3, z4, z5, z6⟩, ⟨y0, y1, y2, y3, y4, y5, y6⟩, ⟨x0, x1, x2, x3, x4, x5, x6⟩⟩ := hSw; go_simp <;> with_reducible rfl)
  try simp only [Act.put, List.setIfInBounds_toArray, List.set_cons_zero, List.set_cons_succ]
  refine lat_take 12 (v := ?_) rfl (by kernel_rfl) (by kernel_rfl) (by kernel_rfl) (by kernel_rfl) (fun _ _ _ h => h) (by rfl) ?_ (by assumption) ?_
  rotate_left
  · (intro w hSw; obtain ⟨⟨z0, z1, z2, z3, z4, z5, z6⟩, ⟨y0, y1, y2, y3, y4, y5, y6⟩, ⟨x0, x1, x2, x3, x4, x5, x6⟩⟩ := hSw; go_simp <;> with_reducible rfl)
  try simp only [Act.put, List.setIfInBounds_toArray, List.set_cons_zero, List.set_cons_succ]
  refine lat_take 13 (v := ?_) rfl (by kernel_rfl) (by kernel_rfl) (by kernel_rfl) (by kernel_rfl) (fun _ _ _ h => h) (by rfl) ?_ (by assumption) ?_
  rotate_left
  · (intro w hSw; obtain ⟨⟨z0, z1, z2, z3, z4, z5, z6⟩, ⟨y0, y1, y2, y3, y4, y5, y6⟩, ⟨x0, x1, x2, x3, x4, x5, x6⟩⟩ := hSw; go_simp <;> with_reducible rfl)
  try simp only [Act.put, List.setIfInBounds_toArray, List.set_cons_zero, List.set_cons_succ]
  refine lat_take 14 (v := ?_) rfl (by kernel_rfl) (by kernel_rfl) (by kernel_rfl) (by kernel_rfl) (fun _ _ _ h => h) (by rfl) ?_ (by assumption) ?_
  rotate_left
  · (intro w hSw; obtain ⟨⟨z0, z1, z2, z3, z4, z5, z6⟩, ⟨y0, y1, y2, y3, y4, y5, y6⟩, ⟨x0, x1, x2, x3, x4, x5, x6⟩⟩ := hSw; go_simp <;> with_reducible rfl)
  try simp only [Act.put, List.setIfInBounds_toArray, List.set_cons_zero, List.set_cons_succ]
  refine lat_take 15 (v := ?_) rfl (by kernel_rfl) (by kernel_rfl) (by kernel_rfl) (by kernel_rfl) (fun _ _ _ h => h) (by rfl) ?_ (by assumption) ?_
  rotate_left
  · (intro w hSw; obtain ⟨⟨z0, z1, z2, z3, z4, z5, z6⟩, ⟨y0, y1, y2, y3, y4, y5, y6⟩, ⟨x0, x1, x2, x3, x4, x5, x6⟩⟩ := hSw; go_simp <;> with_reducible rfl)
  try simp only [Act.put, List.setIfInBounds_toArray, List.set_cons_zero, List.set_cons_succ]
  refine lat_one 16 rfl (by kernel_rfl) (by decide) (by rfl) (fun K hK => ?_)
  go_simp
  have hb10 := hbV.trans (hb9.mono hbV.size)
  refine Calls.mono (awake_any _ (hh.below hb10)) ?_
  rintro e v6 ⟨rfl, hb11⟩
  have hb12 := hb9.trans (hb11.mono hb9.size)
  dsimp only
  refine hK.out _ _ (HSx.out _ hb12) (fun hHeld5 => ?_)
  clear hK hHeld4
  try simp only [Act.put, List.setIfInBounds_toArray, List.set_cons_zero, List.set_cons_succ]
  refine lat_take 17 (v := ?_) rfl (by kernel_rfl) (by kernel_rfl) (by kernel_rfl) (by kernel_rfl) (fun _ _ _ h => h) (by rfl) ?_ (by assumption) ?_
  rotate_left
  · (intro w hSw; obtain ⟨⟨z0, z1, z2, z3, z4, z5, z6⟩, ⟨y0, y1, y2, y3, y4, y5, y6⟩, ⟨x0, x1, x2, x3, x4, x5, x6⟩⟩ := hSw; go_simp <;> with_reducible rfl)
  try simp only [Act.put, List.setIfInBounds_toArray, List.set_cons_zero, List.set_cons_succ]
  refine lat_last 18 rfl (by kernel_rfl) (by decide) (by kernel_rfl) (by rfl) (fun K hK => ?_)
  go_simp
  refine hK.out _ _ ?_
  clear hK hHeld5
  try simp only [Act.put, List.setIfInBounds_toArray, List.set_cons_zero, List.set_cons_succ]
  have hb13 := hb10.trans (hb11.mono hb10.size)
  clear hb10 hb11 hb12 hb9 hb8
  go_wp2_with fail
  go_ret
  exact ⟨rfl, hb13⟩
end Go.Proofs.YtbiniohacnaieaaDoor
