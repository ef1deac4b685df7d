/- The walk of CrcMixes: true for every argument. -/
import Derived.Test.YtkbimkpbpbjafaaDoorFlm
import Derived.Test.YtkbimkpbpbjafaaDoorPcs
import Derived.Deep.RegionWith
import Derived.Deep.RegionHeld3
import Derived.OwnWalk
namespace Go.Proofs.YtkbimkpbpbjafaaDoor
set_option linter.unusedSimpArgs false
set_option linter.unusedVariables false
open Go.RowKit
theorem Row.take {w : World} {a : Option Addr} {l : List Nat} (h : Row w a l) (n : Nat) : Row w a (l.take n) := by
  intro i hi
  have hi2 : i < l.length ∧ i < n := by simp at hi; omega
  obtain ⟨b, off, e, hc, hl⟩ := h i hi2.1
  have e2 : (l.take n).getD i 0 = l.getD i 0 := by simp [List.getD, List.getElem?_take, hi2.2]
  rw [e2]
  exact ⟨b, off, e, hc, hl⟩
theorem cell_heap {w w' : World} (h : w'.heap = w.heap) (p : Addr) : w'.cell? p = w.cell? p := by unfold World.cell?; rw [h]
theorem Row.heap {w w' : World} {a : Option Addr} {l : List Nat} (h : Row w a l) (e : w'.heap = w.heap) : Row w' a l := by
  intro i hi
  obtain ⟨b, off, e1, hc, hl⟩ := h i hi
  exact ⟨b, off, e1, by rw [cell_heap e]; exact hc, hl⟩
theorem Tab.heap {w w' : World} (h : Tab w) (e : w'.heap = w.heap) : Tab w' := by
  intro i hi
  rw [cell_heap e]; exact h i hi
structure MAt (a b c : List Nat) (n k : Nat) (cur : List Nat) : Prop where
  len : cur.length = n
  at' : ∀ i, i < k → cur.getD i 0 = a.getD i 0 ^^^ b.getD i 0 ^^^ c.getD i 0
  bd : ∀ i, cur.getD i 0 < 256
theorem MAt.start (a b c : List Nat) (n : Nat) : MAt a b c n 0 (List.replicate n 0) := ⟨by simp, fun i hi => by omega, fun i => by
  by_cases h : i < n
  · simp [List.getD, h]
  · rw [getD_out _ _ (by simp; omega)]; omega⟩
theorem MAt.step {a b c : List Nat} {n k : Nat} {cur : List Nat} (h : MAt a b c n k cur) (hk : k < n) (x : Nat) (hx : a.getD k 0 ^^^ b.getD k 0 ^^^ c.getD k 0 = x) (hl : x < 256) : MAt a b c n (k + 1) (cur.set k x) := by
  refine ⟨by simp [h.len], fun i hi => ?_, fun i => ?_⟩
  · rw [getD_set _ _ _ _ (by rw [h.len]; omega)]
    by_cases e : k = i
    · subst e; rw [if_pos rfl, hx]
    · rw [if_neg e]; exact h.at' i (by omega)
  · by_cases hi : i < cur.length
    · rw [getD_set _ _ _ _ hi]
      split
      · exact hl
      · exact h.bd i
    · rw [getD_out _ _ (by simp; omega)]; omega
theorem zip3 (a b c : List Nat) (i : Nat) (ha : i < a.length) (hb : i < b.length) (hc : i < c.length) : (List.zipWith (· ^^^ ·) (List.zipWith (· ^^^ ·) a b) c).getD i 0 = a.getD i 0 ^^^ b.getD i 0 ^^^ c.getD i 0 := by
  simp only [List.getD, List.getElem?_zipWith, List.getElem?_eq_getElem ha, List.getElem?_eq_getElem hb, List.getElem?_eq_getElem hc, Option.getD_some]
theorem take_get (l : List Nat) (n i : Nat) (h : i < n) : (l.take n).getD i 0 = l.getD i 0 := by simp [List.getD, List.getElem?_take, h]
theorem MAt.sums {a b c : List Nat} {n : Nat} {cur : List Nat} (h : MAt a b c n n cur) (ha : n ≤ a.length) (hb : n ≤ b.length) (hc : n ≤ c.length) : P.sum cur = P.sum (a.take n) ^^^ P.sum (b.take n) ^^^ P.sum (c.take n) := by
  have e : cur = List.zipWith (· ^^^ ·) (List.zipWith (· ^^^ ·) (a.take n) (b.take n)) (c.take n) := by
    apply list_ext (by simp [h.len]; omega)
    intro i hi
    rw [h.len] at hi
    rw [h.at' i hi, zip3 _ _ _ _ (by simp; omega) (by simp; omega) (by simp; omega), take_get _ _ _ hi, take_get _ _ _ hi, take_get _ _ _ hi]
  rw [e]
  exact P.sum_mix _ _ _ (by simp; omega) (by simp; omega)
theorem run_slice_front (w : World) (a : Option Addr) (len cap n : Nat) (h : n ≤ cap) : (Instr.slice 22 (.slice a len cap) none (some (.int .i64 (n : Int))) none).run Tryd.prog w = .ok (.slice a n cap) w := by
  have hs : (sizeOf 5).run Tryd.prog w = .ok 1 w := by
    obtain ⟨i0, hi, hz0, hz1, hz2⟩ := info_parts Tryd.info5
    simp [sizeOf, typeInfo, hi, hz1]
  have h0 : (0 : Int) ≤ (n : Int) := by omega
  have h1 : (n : Int) ≤ (cap : Int) := by omega
  cases a <;> simp [Instr.slice, run_underlying Tryd.underlying22, Instr.sliceBounds, hs, h0, h1, go_sem]
theorem made_own {B g n : Nat} {w1 : World} (h : w1.ownsRow B 5 1 (.slice (some ⟨g, 0, none⟩) n n) n (madeCells (Value.int .u8 0).cells (n * 1)).toList) : Own B w1 g n (List.replicate n 0) := by
  have e : (madeCells (Value.int .u8 0).cells (n * 1)).toList = cv (List.replicate n 0) := by
    simp only [madeCells, cv, Value.cells, List.map_replicate]
    rw [List.eq_replicate_iff]
    refine ⟨by simp, ?_⟩
    intro b hb
    simp [Nat.mod_one] at hb
    obtain ⟨_, _, rfl⟩ := hb
    rfl
  rw [e] at h
  unfold Own
  rw [List.length_replicate]
  exact h
set_option maxRecDepth 100000 in
set_option maxHeartbeats 1600000 in
theorem crcMixes_walk (a0 : Option Addr) (cap0 : Nat) (l0 : List Nat) (a1 : Option Addr) (cap1 : Nat) (l1 : List Nat) (a2 : Option Addr) (cap2 : Nat) (l2 : List Nat) (w : World) (ht : Tab w) (w0 : Row w a0 l0) (m0 : l0.length ≤ maxLen) (c0 : l0.length ≤ cap0) (n0 : a0 = none → cap0 = 0) (w1 : Row w a1 l1) (m1 : l1.length ≤ maxLen) (c1 : l1.length ≤ cap1) (n1 : a1 = none → cap1 = 0) (w2 : Row w a2 l2) (m2 : l2.length ≤ maxLen) (c2 : l2.length ≤ cap2) (n2 : a2 = none → cap2 = 0) :
    Calls Tryd.prog 8 #[.slice a0 l0.length cap0, .slice a1 l1.length cap1, .slice a2 l2.length cap2] w fun e w' => e = .returned (.bool true) ∧ Below w.heap.size w w' := by
  clear n0 n1 n2
  obtain ⟨m, hm, hmin1⟩ : ∃ m : Nat, m = min l1.length l2.length ∧ (if l2.length < l1.length then (l2.length : Int) else (l1.length : Int)) = (m : Int) := ⟨_, rfl, by split <;> omega⟩
  obtain ⟨n, hn, hmin2⟩ : ∃ n : Nat, n = min l0.length m ∧ (if m < l0.length then (m : Int) else (l0.length : Int)) = (n : Int) := ⟨_, rfl, by split <;> omega⟩
  have q0 : n ≤ l0.length := by omega
  have q1 : n ≤ l1.length := by omega
  have q2 : n ≤ l2.length := by omega
  have Q0 : Hid (n ≤ l0.length) := q0
  have Q1 : Hid (n ≤ l1.length) := q1
  have Q2 : Hid (n ≤ l2.length) := q2
  have hnM : n ≤ maxLen := by omega
  have hnB := hnM
  unfold maxLen at hnB
  clear hm hn
  by_cases h3 : 3000 < n
  · have h3I : 3000 < (n : Int) := by omega
    go_enter Tryd.func8, Tryd.ntmps8
    go_wp2_with (go_at_call 9; refine (awake_any _ ht).mono ?_; rintro e w' ⟨rfl, hb⟩)
    go_ret
    exact ⟨rfl, by assumption⟩
  have h3I : ¬ 3000 < (n : Int) := by omega
  obtain ⟨i0, hi, hz0, hz1, hz2⟩ := info_parts Tryd.info5
  have xb : i0.bytes * n ≤ 281474976710656 := by rw [hz2]; omega
  go_enter Tryd.func8, Tryd.ntmps8
  go_wp2_with (at_make; refine wpList_make_full _ rfl _ _ 22 rfl w.heap.size 5 i0 (.int .u8 0) 1 Tryd.underlying22 hi hz0 hz1 .i64 .i64 _ _ n rfl rfl rfl rfl xb hnM (Nat.le_refl _) ?_; intro u1 hown0 hg; have hb1 := below_made hg; have hown := made_own hown0; clear hown0 hg)
  go_loopw [9] (fun i wr => ∃ (k : Nat) (cur : List Nat), k ≤ n ∧ i = .int .i64 k ∧ MAt l0 l1 l2 n k cur ∧ Own w.heap.size wr w.heap.size n cur ∧ Below w.heap.size w wr) (fun i _ => n - (intOf i).toNat)
  case atStart => exact ⟨0, _, by omega, rfl, MAt.start l0 l1 l2 n, hown, hb1⟩
  case round =>
    clear hown hb1
    obtain ⟨k, cur, hk, rfl, hat, hown, hbel⟩ := hrel
    by_cases hlt : k < n
    · have x0 := w0.below hbel
      have x1 := w1.below hbel
      have x2 := w2.below hbel
      obtain ⟨b0, o0, rfl, k0, t0⟩ := x0 k (by have := Q0.out; omega)
      obtain ⟨b1, o1, rfl, k1, t1⟩ := x1 k (by have := Q1.out; omega)
      obtain ⟨b2, o2, rfl, k2, t2⟩ := x2 k (by have := Q2.out; omega)
      have y0 : (k : Int) < (l0.length : Int) := by have := Q0.out; omega
      have y1 : (k : Int) < (l1.length : Int) := by have := Q1.out; omega
      have y2 : (k : Int) < (l2.length : Int) := by have := Q2.out; omega
      have yn : (k : Int) < (n : Int) := by omega
      have z1 := u8_xor_nat (l0.getD k 0) (l1.getD k 0) t0 t1
      have z1l : l0.getD k 0 ^^^ l1.getD k 0 < 256 := Nat.xor_lt_two_pow (n := 8) t0 t1
      have z2 := u8_xor_nat (l0.getD k 0 ^^^ l1.getD k 0) (l2.getD k 0) z1l t2
      have z2l : l0.getD k 0 ^^^ l1.getD k 0 ^^^ l2.getD k 0 < 256 := Nat.xor_lt_two_pow (n := 8) z1l t2
      have HN : Hid (MAt l0 l1 l2 n (k + 1) (cur.set k (l0.getD k 0 ^^^ l1.getD k 0 ^^^ l2.getD k 0))) := hat.step hlt _ rfl z2l
      have hcell := hown.cell k (by rw [hat.len]; exact hlt)
      have hfree := hown.free k
      have HLn : Hid (cur.length = n) := hat.len
      clear hat x0 x1 x2
      generalize l0.getD k 0 ^^^ l1.getD k 0 ^^^ l2.getD k 0 = d at *
      generalize l0.getD k 0 ^^^ l1.getD k 0 = d1 at *
      generalize l0.getD k 0 = e0 at *
      generalize l1.getD k 0 = e1 at *
      generalize l2.getD k 0 = e2 at *
      generalize cur.getD k 0 = ec at *
      go_wp2
      go_region
      go_wp2
      have hst := hown.store k d
      exact ⟨⟨k + 1, cur.set k d, by omega, by go_num, HN.out, hst, (hbel.setCell (Nat.le_refl _) _).drew⟩, by simp [intOf]; omega⟩
    · obtain rfl : k = n := by omega
      have hs := hat.sums Q0.out Q1.out Q2.out
      have hrow := hown.row hat.bd
      have hln := hat.len
      have r0 := (w0.below hbel).take k
      have r1 := (w1.below hbel).take k
      have r2 := (w2.below hbel).take k
      have L0 : (l0.take k).length = k := by have := Q0.out; simp; omega
      have L1 : (l1.take k).length = k := by have := Q1.out; simp; omega
      have L2 : (l2.take k).length = k := by have := Q2.out; simp; omega
      have s0 := sum_lt _ r0.bd
      have s1 := sum_lt _ r1.bd
      have s2 := sum_lt _ r2.bd
      have ht1 := ht.below hbel
      have K0 : Hid (∀ w', w'.heap = wr.heap → Calls Tryd.prog 10 #[.slice a0 k cap0] w' fun e w1 => e = .returned (.int .u32 ((P.sum (l0.take k) : Nat) : Int)) ∧ w1 = w') := fun w' hw => by
        have := sum_any a0 cap0 (l0.take k) w' (ht1.heap hw) (r0.heap hw) (by rw [L0]; exact hnM)
        rw [L0] at this; exact this
      have K1 : Hid (∀ w', w'.heap = wr.heap → Calls Tryd.prog 10 #[.slice a1 k cap1] w' fun e w1 => e = .returned (.int .u32 ((P.sum (l1.take k) : Nat) : Int)) ∧ w1 = w') := fun w' hw => by
        have := sum_any a1 cap1 (l1.take k) w' (ht1.heap hw) (r1.heap hw) (by rw [L1]; exact hnM)
        rw [L1] at this; exact this
      have K2 : Hid (∀ w', w'.heap = wr.heap → Calls Tryd.prog 10 #[.slice a2 k cap2] w' fun e w1 => e = .returned (.int .u32 ((P.sum (l2.take k) : Nat) : Int)) ∧ w1 = w') := fun w' hw => by
        have := sum_any a2 cap2 (l2.take k) w' (ht1.heap hw) (r2.heap hw) (by rw [L2]; exact hnM)
        rw [L2] at this; exact this
      have K3 : Hid (∀ w', w'.heap = wr.heap → Calls Tryd.prog 10 #[.slice (some ⟨w.heap.size, 0, none⟩) k k] w' fun e w1 => e = .returned (.int .u32 ((P.sum cur : Nat) : Int)) ∧ w1 = w') := fun w' hw => by
        have := sum_any (some ⟨w.heap.size, 0, none⟩) k cur w' (ht1.heap hw) (hrow.heap hw) (by rw [hln]; exact hnM)
        rw [hln] at this; exact this
      have K4 : Hid (∀ w', w'.heap = wr.heap → Calls Tryd.prog 9 #[] w' fun e w1 => e = .returned (.bool true) ∧ Below w'.heap.size w' w1) := fun w' hw => awake_any w' (ht1.heap hw)
      have v0 := fun w' => run_slice_front w' a0 l0.length cap0 k (by have := Q0.out; omega)
      have v1 := fun w' => run_slice_front w' a1 l1.length cap1 k (by have := Q1.out; omega)
      have v2 := fun w' => run_slice_front w' a2 l2.length cap2 k (by have := Q2.out; omega)
      clear hat hrow r0 r1 r2 L0 L1 L2 hown hln
      have g1 := xor32 _ _ s0 s1
      have g1l := xor_lt32 s0 s1
      have g2 := xor32 _ _ g1l s2
      rw [← hs] at g2
      have ge := eqI ((P.sum cur : Nat) : Int)
      clear hs
      generalize P.sum (l0.take k) ^^^ P.sum (l1.take k) = s01 at *
      generalize P.sum (l0.take k) = S0 at *
      generalize P.sum (l1.take k) = S1 at *
      generalize P.sum (l2.take k) = S2 at *
      generalize P.sum cur = SS at *
      go_wp2
      go_region_with (first
        | (go_at_call_of 10 (Value.slice (some ⟨w.heap.size, 0, none⟩) k k); refine (K3.out _ (by rfl)).mono ?_; rintro e v2 ⟨rfl, hw⟩; subst v2)
        | (go_at_call_of 10 (Value.slice a0 k cap0); refine (K0.out _ (by rfl)).mono ?_; rintro e v2 ⟨rfl, hw⟩; subst v2)
        | (go_at_call_of 10 (Value.slice a1 k cap1); refine (K1.out _ (by rfl)).mono ?_; rintro e v2 ⟨rfl, hw⟩; subst v2)
        | (go_at_call_of 10 (Value.slice a2 k cap2); refine (K2.out _ (by rfl)).mono ?_; rintro e v2 ⟨rfl, hw⟩; subst v2)
        | (go_at_call 9; refine (K4.out _ (by rfl)).mono ?_; rintro e v6 ⟨rfl, hb6⟩))
      all_goals go_wp2
      all_goals go_ret
      all_goals exact ⟨rfl, hbel.drew.trans (hb6.mono hbel.size)⟩
end Go.Proofs.YtkbimkpbpbjafaaDoor
