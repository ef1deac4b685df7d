/- split. -/
import Derived.Test.YtaooidckmepdeaaDoorRo
import Derived.Test.YtaooidckmepdeaaDoorBx
import Derived.Test.YtaooidckmepdeaaDoorLw
import Derived.Test.YtaooidckmepdeaaDoorDe
import Derived.Test.YtaooidckmepdeaaDoorLat
namespace Go.Proofs.YtaooidckmepdeaaDoor
set_option linter.unusedSimpArgs false
set_option linter.unusedVariables false
open Go.RowKit
theorem rbox_cells {y : World} {D : Nat} {rk : Bool} {rkk : ByteArray} {rv : Bool} {rvv : ByteArray} {rt ro : Int} (h : y.heap[D]? = some (.cells #[.bool rk, .string rkk, .bool rv, .string rvv, .int .i64 rt, .int .i64 ro] 87 (0, 0))) :
    y.cell? ⟨D, 0, none⟩ = some (.bool rk) ∧ y.cell? ⟨D, 1, none⟩ = some (.string rkk) ∧ y.cell? ⟨D, 2, none⟩ = some (.bool rv) ∧ y.cell? ⟨D, 3, none⟩ = some (.string rvv) ∧ y.cell? ⟨D, 4, none⟩ = some (.int .i64 rt) ∧ y.cell? ⟨D, 5, none⟩ = some (.int .i64 ro) := by
  have hc : ∀ j, y.cell? ⟨D, j, none⟩ = _ := fun j => cell_of_row _ D j _ 87 (0, 0) h
  exact ⟨by rw [hc]; rfl, by rw [hc]; rfl, by rw [hc]; rfl, by rw [hc]; rfl, by rw [hc]; rfl, by rw [hc]; rfl⟩
theorem rrow_new0 (w : World) (r : Rc) : RRow (w.alloc (.cells r.cells 87)) (some ⟨w.heap.size, 0, none⟩) [r] := by
  have hc : ∀ j, (w.alloc (.cells r.cells 87)).cell? ⟨w.heap.size, j, none⟩ = r.cells[j]? := fun j => cell_of_row _ w.heap.size j r.cells 87 (0, 0) (heap_alloc_new w _)
  intro i hi
  obtain rfl : i = 0 := by simpa using hi
  exact ⟨w.heap.size, 0, rfl, hc 0, hc 1, hc 2, hc 3, hc 4, hc 5⟩
theorem rest_len (l : List Nat) (f : Int) (k : Nat) (h : AllOk l f k) : (rest l f k).length + k ≤ l.length := by
  induction k with
  | zero => exact Nat.le_refl _
  | succ k ih =>
    have h1 := ih (fun j hj => h j (by omega))
    have ho := h k (by omega)
    have h2 := p4_len (rest l f k)
    have h0 : 0 < (rest l f k).length := by
      unfold okD gate at ho
      simp only [Bool.and_eq_true, decide_eq_true_eq] at ho
      exact ho.1.1.1.2
    have hd : decN (rest l f k) f = (rest l f k).length - (p4 (rest l f k)).length := by unfold decN; rw [if_pos ho]
    show ((rest l f k).drop _).length + (k + 1) ≤ _
    rw [List.length_drop, hd]
    omega
theorem own_base {w : World} {B n k c : Nat} {va : Option Addr} {xs : List Value} (h : w.ownsRow B 87 6 (.slice va k c) n xs) : ∀ g, va = some g → B ≤ g.block := by
  intro g hg
  subst hg
  rcases h.2 with ⟨e, _⟩ | ⟨g', cap', cur, e, hB, _⟩
  · cases e
  · injection e with e1
    injection e1 with e1
    rw [e1]
    exact hB
theorem own_ne {w w4 : World} {B n : Nat} {v : Value} {xs : List Value} (h : w.ownsRow B 87 6 v n xs) (hs : w.heap.size ≤ w4.heap.size) : v.ownBlock ≠ some w4.heap.size := by
  intro c
  have := (h.lt _ c).2
  omega
/-- Where split stands behind k records. -/
structure SpS (w : World) (l : List Nat) (f : Int) (k : Nat) (p v : Value) (x : World) : Prop where
  own : x.ownsRow w.heap.size 87 6 v k (rcv (recs l f k))
  row : ∃ a c, p = .slice a (rest l f k).length c ∧ Row w a (rest l f k) ∧ (rest l f k).length ≤ c ∧ c ≤ maxLen
  ok : AllOk l f k
  bel : Below w.heap.size w x
set_option maxHeartbeats 1600000 in
set_option maxRecDepth 100000 in
theorem split_any (a : Option Addr) (cap : Nat) (l : List Nat) (cnt : Nat) (first : Int) (w : World) (hr : Row w a l) (hl : l.length ≤ cap) (hc : cap ≤ maxLen) (hl2 : l.length ≤ 10000) (hcn : cnt ≤ 4294967295) :
    Calls Tryd.prog 99 #[.slice a l.length cap, .int .i64 cnt, .int .i64 first] w fun e w' => (AllOk l first cnt → ∃ a' c', e = .returned (.tuple #[.slice a' cnt c', .bool (decide (rest l first cnt = []))]) ∧ RRow w' a' (recs l first cnt) ∧ (a' = none → c' = 0) ∧ (∀ g, a' = some g → w.heap.size ≤ g.block)) ∧ (¬ AllOk l first cnt → e = .returned (.tuple #[.slice none 0 0, .bool false])) ∧ Below w.heap.size w w' := by
  have HDE : Hid (∀ x a c q, Row x a q → q.length ≤ c → c ≤ maxLen → Calls Tryd.prog 104 #[.slice a q.length c, .int .i64 first] x fun e w' => e = .returned (.tuple #[.agg (decR q first).cells, .int .i64 ((decN q first : Nat) : Int), .int .i64 (decE q first)]) ∧ Below x.heap.size x w') := fun x a c q h1 h2 h3 => decode_any a c q first x h1 h2 h3
  have HS0 : Hid (SpS w l first 0 (.slice a l.length cap) (.slice none 0 0) w) := ⟨World.ownsRow_nil _ _ _ _, ⟨a, cap, rfl, hr, hl, hc⟩, fun k hk => by omega, Below.refl _ _⟩
  clear hr hl hc
  obtain ⟨db, HDB⟩ : ∃ db, Hid (decide (rest l first cnt = []) = db) := ⟨_, rfl⟩
  rw [HDB.out]
  go_enter Tryd.func99, Tryd.ntmps99
  go_wp2_with fail
  go_loopw [0, 6, 12] (fun p v i x => ∃ k : Nat, k ≤ cnt ∧ i = .int .i64 k ∧ SpS w l first k p v x) (fun _ _ i _ => cnt - (intOf i).toNat)
  case atStart => exact ⟨0, by omega, rfl, HS0.out⟩
  case round =>
    clear HS0
    obtain ⟨k, hk, rfl, hS⟩ := hrel
    obtain ⟨hown, ⟨pa, pc, rfl, hrow, hpl, hpm⟩, hok, hbel⟩ := hS
    obtain ⟨va, vc, rfl, hvr, hvn, hvl, hvm⟩ := owns_rrow (rs := recs l first k) (by rw [recs_len]; exact hown)
    have hvb : ∀ g, va = some g → w.heap.size ≤ g.block := own_base hown
    have HVB : Hid _ := hvb
    clear hvb
    rw [recs_len] at hvl hown ⊢
    by_cases hlt : k < cnt
    · have hltI : (k : Int) < (cnt : Int) := by omega
      by_cases ho : okD (rest l first k) first = true
      · have hE : decE (rest l first k) first = 0 := by unfold decE; rw [if_pos ho]
        have hR : decR (rest l first k) first = rcOf (rest l first k) first := by unfold decR; rw [if_pos ho]
        have hN : decN (rest l first k) first ≤ (rest l first k).length := by unfold decN; rw [if_pos ho]; omega
        have HD1 := HDE.out
        have HDX : Hid (∀ x, Row x pa (rest l first k) → Calls Tryd.prog 104 #[.slice pa (rest l first k).length pc, .int .i64 first] x fun e w' => e = .returned (.tuple #[.agg (rcOf (rest l first k) first).cells, .int .i64 ((decN (rest l first k) first : Nat) : Int), .int .i64 0]) ∧ Below x.heap.size x w') := by
          intro x hx
          have := HD1 x pa pc _ hx hpl hpm
          rw [hE, hR] at this
          exact this
        have HRS : Hid (rest l first (k + 1) = (rest l first k).drop (decN (rest l first k) first)) := rfl
        have HRC : Hid (recs l first (k + 1) = recs l first k ++ [rcOf (rest l first k) first]) := recs_succ l first k
        have HAO : Hid (AllOk l first (k + 1)) := by
          intro j hj
          by_cases hjk : j = k
          · subst hjk; exact ho
          · exact hok j (by omega)
        have hkl : k ≤ 10000 := by have := rest_len l first k hok; omega
        clear HD1 HDE hE hR ho hok
        generalize rest l first k = q at *
        generalize recs l first k = R at *
        generalize rcOf q first = r at *
        generalize decN q first = n at *
        obtain ⟨rk, rkk, rv, rvv, rt, ro⟩ := r
        simp only [Rc.cells] at HDX
        have hnI : (n : Int) ≤ (q.length : Int) := by omega
        have ks : ∀ w', (Instr.slice 29 (.slice pa q.length pc) (some (.int .i64 (n : Int))) none none).run Tryd.prog w' = .ok (.slice (cutA pa pc n) (q.length - n) (pc - n)) w' := fun w' => run_slice_from w' pa q.length pc n .i64 hN
        have HROW : Hid (Row wr pa q) := hrow.below hbel
        have HRW0 : Hid (Row w pa q) := hrow
        clear hrow hvr
        go_wp2_with (go_at_call 104; refine (HDX.out _ HROW.out).mono ?_; rintro e w4 ⟨rfl, hb4⟩; have HB4 : Hid (Below w.heap.size w w4) := hbel.trans (hb4.mono hbel.size); have HO4 : Hid (w4.ownsRow w.heap.size 87 6 (.slice va k vc) k (rcv R)) := owns_below hown hb4; have HVD : Hid ((Value.slice va k vc).ownBlock ≠ some w4.heap.size) := own_ne hown hb4.size; obtain ⟨D, HD⟩ : ∃ D, Hid (w4.heap.size = D) := ⟨_, rfl⟩)
        rw [HD.out]
        have hS0 : (fun y : World => y.heap[D]? = some (.cells #[.bool rk, .string rkk, .bool rv, .string rvv, .int .i64 rt, .int .i64 ro] 87 (0, 0)) ∧ Below w.heap.size w y) (w4.alloc (.cells #[.bool rk, .string rkk, .bool rv, .string rvv, .int .i64 rt, .int .i64 ro] 87)).drew := ⟨HD.out ▸ heap_alloc_new w4 _, (HB4.out.alloc HB4.out.size _).drew⟩
        refine wp_region_lat (fun y : World => y.heap[D]? = some (.cells #[.bool rk, .string rkk, .bool rv, .string rvv, .int .i64 rt, .int .i64 ro] 87 (0, 0)) ∧ Below w.heap.size w y) 8 (by kernel_rfl) hS0 (fun hHeld => ?_)
        clear hS0
        refine lat_take 0 (v := ?_) rfl (by kernel_rfl) (by kernel_rfl) (by kernel_rfl) (by kernel_rfl) (fun _ _ _ h => h) (by rfl) ?_ (by assumption) ?_
        rotate_left
        · (intro w hSw; obtain ⟨q0, q1, q2, q3, q4, q5⟩ := rbox_cells hSw.1; go_simp <;> with_reducible rfl)
        try simp only [Act.put, List.setIfInBounds_toArray, List.set_cons_zero, List.set_cons_succ]
        refine lat_take 1 (v := ?_) rfl (by kernel_rfl) (by kernel_rfl) (by kernel_rfl) (by kernel_rfl) (fun _ _ _ h => h) (by rfl) ?_ (by assumption) ?_
        rotate_left
        · (intro w hSw; obtain ⟨q0, q1, q2, q3, q4, q5⟩ := rbox_cells hSw.1; go_simp <;> with_reducible rfl)
        try simp only [Act.put, List.setIfInBounds_toArray, List.set_cons_zero, List.set_cons_succ]
        refine lat_take 4 (v := ?_) rfl (by kernel_rfl) (by kernel_rfl) (by kernel_rfl) (by kernel_rfl) (fun _ _ _ h => h) (by rfl) ?_ (by assumption) ?_
        rotate_left
        · (intro w hSw; obtain ⟨q0, q1, q2, q3, q4, q5⟩ := rbox_cells hSw.1; go_simp <;> with_reducible rfl)
        try simp only [Act.put, List.setIfInBounds_toArray, List.set_cons_zero, List.set_cons_succ]
        refine lat_take 5 (v := ?_) rfl (by kernel_rfl) (by kernel_rfl) (by kernel_rfl) (by kernel_rfl) (fun _ _ _ h => h) (by rfl) ?_ (by assumption) ?_
        rotate_left
        · (intro w hSw; obtain ⟨q0, q1, q2, q3, q4, q5⟩ := rbox_cells hSw.1; go_simp <;> with_reducible rfl)
        try simp only [Act.put, List.setIfInBounds_toArray, List.set_cons_zero, List.set_cons_succ]
        refine lat_take 6 (v := ?_) rfl (by kernel_rfl) (by kernel_rfl) (by kernel_rfl) (by kernel_rfl) (fun _ _ _ h => h) (by rfl) ?_ (by assumption) ?_
        rotate_left
        · (intro w hSw; obtain ⟨q0, q1, q2, q3, q4, q5⟩ := rbox_cells hSw.1; go_simp <;> with_reducible rfl)
        try simp only [Act.put, List.setIfInBounds_toArray, List.set_cons_zero, List.set_cons_succ]
        refine lat_one 2 rfl (by kernel_rfl) (by decide) (by rfl) (fun K hK => ?_)
        go_simp
        try dsimp only
        obtain ⟨Y, HY⟩ : ∃ Y, Hid (((w4.alloc (.cells #[.bool rk, .string rkk, .bool rv, .string rvv, .int .i64 rt, .int .i64 ro] 87)).alloc (.cells #[.bool rk, .string rkk, .bool rv, .string rvv, .int .i64 rt, .int .i64 ro] 87)).drew = Y) := ⟨_, rfl⟩
        have hY4 : Below w4.heap.size w4 Y := by rw [← HY.out]; exact ((below_box _).trans ((below_box _).mono (by simp))).drew
        have hYS : (fun y : World => y.heap[D]? = some (.cells #[.bool rk, .string rkk, .bool rv, .string rvv, .int .i64 rt, .int .i64 ro] 87 (0, 0)) ∧ Below w.heap.size w y) Y := by
          rw [← HY.out]
          refine ⟨?_, ((HB4.out.alloc HB4.out.size _).trans ((below_box _).mono (by have := HB4.out.size; simp; omega))).drew⟩
          show ((w4.alloc (.cells #[.bool rk, .string rkk, .bool rv, .string rvv, .int .i64 rt, .int .i64 ro] 87)).alloc (.cells #[.bool rk, .string rkk, .bool rv, .string rvv, .int .i64 rt, .int .i64 ro] 87)).heap[D]? = _
          rw [(below_box (w := w4.alloc (.cells #[.bool rk, .string rkk, .bool rv, .string rvv, .int .i64 rt, .int .i64 ro] 87)) _).block D (by rw [← HD.out]; simp)]
          exact HD.out ▸ heap_alloc_new w4 _
        have hYR : RRow Y (some ⟨w4.heap.size + 1, 0, none⟩) [⟨rk, rkk, rv, rvv, rt, ro⟩] := by
          have h2 := rrow_new0 (w4.alloc (.cells #[.bool rk, .string rkk, .bool rv, .string rvv, .int .i64 rt, .int .i64 ro] 87)) ⟨rk, rkk, rv, rvv, rt, ro⟩
          rw [show (w4.alloc (.cells #[.bool rk, .string rkk, .bool rv, .string rvv, .int .i64 rt, .int .i64 ro] 87)).heap.size = w4.heap.size + 1 by simp] at h2
          rw [← HY.out]
          exact RRow.below h2 ((Below.refl _ _).drew)
        have hYB : Below w.heap.size w Y := hYS.2
        have hYO : Y.ownsRow w.heap.size 87 6 (.slice va k vc) k (rcv R) := owns_below HO4.out hY4
        have hYD : D < Y.heap.size := (Array.getElem?_eq_some_iff.1 hYS.1).1
        rw [show ((w4.alloc (.cells #[.bool rk, .string rkk, .bool rv, .string rvv, .int .i64 rt, .int .i64 ro] 87)).alloc (.cells #[.bool rk, .string rkk, .bool rv, .string rvv, .int .i64 rt, .int .i64 ro] 87)).drew = Y from HY.out]
        refine hK.out _ _ hYS (fun hSZ => ?_)
        clear hK hHeld hYS
        try simp only [Act.put, List.setIfInBounds_toArray, List.set_cons_zero, List.set_cons_succ]
        refine lat_one 3 rfl (by kernel_rfl) (by decide) (by rfl) (fun K hK => ?_)
        refine wp_append_recs _ _ rfl w.heap.size w _ _ _ rfl hYO hYB hYB.size _ 1 [⟨rk, rkk, rv, rvv, rt, ro⟩] rfl hYR (by simp; omega) ?_
        intro v5 w5 hown5 hb5 hg5
        have hS5 : (fun y : World => y.heap[D]? = some (.cells #[.bool rk, .string rkk, .bool rv, .string rvv, .int .i64 rt, .int .i64 ro] 87 (0, 0)) ∧ Below w.heap.size w y) w5 := ⟨(hg5.block D hYD (by intro c; exact HVD.out (by rw [HD.out]; exact c.symm))).trans hSZ.1, hb5⟩
        refine hK.out _ _ hS5 (fun hS6 => ?_)
        clear hK hSZ hYO hYR
        try simp only [Act.put, List.setIfInBounds_toArray, List.set_cons_zero, List.set_cons_succ]
        refine lat_one 7 rfl (by kernel_rfl) (by decide) (by rfl) (fun K hK => ?_)
        go_simp
        try dsimp only
        refine hK.out _ _ hS6 (fun hS7 => ?_)
        clear hK
        try simp only [Act.put, List.setIfInBounds_toArray, List.set_cons_zero, List.set_cons_succ]
        refine lat_last 8 rfl (by kernel_rfl) (by decide) (by kernel_rfl) (by rfl) (fun K hK => ?_)
        go_simp
        try dsimp only
        refine hK.out _ _ ?_
        clear hK
        try simp only [Act.put, List.setIfInBounds_toArray, List.set_cons_zero, List.set_cons_succ]
        go_wp2
        rw [show k + [(⟨rk, rkk, rv, rvv, rt, ro⟩ : Rc)].length = k + 1 from rfl, ← rcv_app] at hown5
        refine ⟨⟨k + 1, by omega, by go_num, ?_, ⟨cutA pa pc n, pc - n, ?_, ?_, ?_, by omega⟩, HAO.out, hb5⟩, by simp [intOf]; omega⟩
        · rw [HRC.out]; exact hown5
        · rw [HRS.out, List.length_drop]
        · rw [HRS.out]; exact row_cut pc n HRW0.out hpl
        · rw [HRS.out, List.length_drop]; omega
      · have ho' : okD (rest l first k) first = false := by simpa using ho
        have hE : decE (rest l first k) first = 10 := by unfold decE; rw [ho']; rfl
        have hR : decR (rest l first k) first = rz := by unfold decR; rw [ho']; rfl
        have hN : decN (rest l first k) first = 0 := by unfold decN; rw [ho']; rfl
        have HNO : Hid (¬ AllOk l first cnt) := fun h => by rw [h k hlt] at ho'; cases ho'
        have HD1 := HDE.out
        have HDX : Hid (∀ x, Row x pa (rest l first k) → Calls Tryd.prog 104 #[.slice pa (rest l first k).length pc, .int .i64 first] x fun e w' => e = .returned (.tuple #[.agg rz.cells, .int .i64 0, .int .i64 10]) ∧ Below x.heap.size x w') := by
          intro x hx
          have := HD1 x pa pc _ hx hpl hpm
          rw [hE, hR, hN] at this
          exact this
        have HROW : Hid (Row wr pa (rest l first k)) := hrow.below hbel
        have HBW : Hid (Below w.heap.size w wr) := hbel
        clear HD1 HDE hE hR hN ho ho' hok hrow hvr hown hbel
        generalize rest l first k = q at *
        simp only [Rc.cells, rz] at HDX
        go_wp2_with (go_at_call 104; refine (HDX.out _ HROW.out).mono ?_; rintro e w4 ⟨rfl, hb4⟩; have HB4 : Hid (Below w.heap.size w w4) := HBW.out.trans (hb4.mono HBW.out.size))
        go_ret2
        exact ⟨fun h => absurd h HNO.out, fun _ => rfl, HB4.out.alloc HB4.out.size _⟩
    · obtain rfl : k = cnt := by omega
      have HOK : Hid (AllOk l first k) := hok
      have HVR : Hid (RRow wr va (recs l first k)) := hvr
      have HBW : Hid (Below w.heap.size w wr) := hbel
      have hz : (((rest l first k).length : Int) == 0) = db := by
        rw [← HDB.out]
        cases rest l first k with
        | nil => rfl
        | cons x t => simp; omega
      clear HDE hok hrow hvr hown hbel
      generalize rest l first k = q at *
      go_wp2_with fail
      go_ret2
      refine ⟨fun _ => ⟨va, vc, ?_, HVR.out, hvn, HVB.out⟩, fun h => absurd HOK.out h, HBW.out⟩
      first | rfl | (rw [hz])
end Go.Proofs.YtaooidckmepdeaaDoor
