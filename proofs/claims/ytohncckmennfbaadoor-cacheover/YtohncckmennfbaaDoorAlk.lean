/- What the laws lean on: two rows alike, a block whose bytes are all one, a number brought into a range. -/
import Derived.Test.YtohncckmennfbaaDoorCh
import Derived.OwnWalk
namespace Go.Proofs.YtohncckmennfbaaDoor
set_option linter.unusedSimpArgs false
set_option linter.unusedVariables false
open Go.RowKit Go.MapKept
theorem bytes_any (a : Option Addr) (capa : Nat) (l : List Nat) (b : Option Addr) (capb : Nat) (m : List Nat) (w : World) (ha : Row w a l) (hb : Row w b m) (hl : l.length ≤ maxLen) (hm : m.length ≤ maxLen) :
    Calls Tryd.prog 26 #[.slice a l.length capa, .slice b m.length capb] w fun e w' => e = .returned (.bool (decide (l = m))) ∧ ∃ n, w' = w.drewN n := by
  unfold maxLen at hl hm
  by_cases hlen : l.length = m.length
  · have hne : ((l.length : Int) != (m.length : Int)) = false := by simp [hlen]
    have HL : Hid (l.length = m.length) := hlen
    clear hlen
    go_enter Tryd.func26, Tryd.ntmps26
    go_wp2
    go_loopw [5] (fun i wr => ∃ k n : Nat, k ≤ l.length ∧ i = .int .i64 k ∧ wr = w.drewN n ∧ ∀ j, j < k → l.getD j 0 = m.getD j 0) (fun i _ => l.length - (iof i).toNat)
    case atStart => exact ⟨0, 0, by omega, rfl, rfl, by intro j hj; omega⟩
    case round =>
      obtain ⟨k, n, hk, rfl, rfl, hsame⟩ := hrel
      have HS : Hid (∀ j, j < k → l.getD j 0 = m.getD j 0) := hsame
      clear hsame
      by_cases hlt : k < l.length
      · obtain ⟨b1, o1, rfl, c1, l1⟩ := ha k hlt
        obtain ⟨b2, o2, rfl, c2, l2⟩ := hb k (by rw [← HL.out]; exact hlt)
        have hltm : k < m.length := by rw [← HL.out]; exact hlt
        have HQ : Hid (l.getD k 0 = m.getD k 0 → ∀ j, j < k + 1 → l.getD j 0 = m.getD j 0) := by
          intro e j hj
          by_cases hjk : j = k
          · subst hjk; exact e
          · exact HS.out j (by omega)
        have HD : Hid (l.getD k 0 ≠ m.getD k 0 → l ≠ m) := by intro e c; rw [c] at e; exact e rfl
        clear ha hb
        have hltI : (k : Int) < (l.length : Int) := by omega
        have hltJ : (k : Int) < (m.length : Int) := by omega
        generalize l.getD k 0 = x at *
        generalize m.getD k 0 = y at *
        go_wp2
        go_quiet (fail)
        go_wp2
        · have hxy : ((x : Int) != (y : Int)) = true := by assumption
          go_ret
          exact ⟨retB (decide_eq_false (HD.out (by rw [bne_iff_ne] at hxy; omega))).symm, n + nq, World.drewN_drewN _ _ _⟩
        · have hxy : ((x : Int) != (y : Int)) = false := by assumption
          have hxy2 : x = y := by have := WalkArith.int_eq' hxy; omega
          exact ⟨⟨k + 1, n + nq, by omega, by go_num, rfl, HQ.out hxy2⟩, by simp [iof]; omega⟩
      · go_wp2
        go_ret
        refine ⟨retB (decide_eq_true ?_).symm, n, rfl⟩
        exact list_ext HL.out (fun i hi => HS.out i (by omega))
  · have hne : ((l.length : Int) != (m.length : Int)) = true := by rw [bne_iff_ne]; omega
    have HL : Hid (l ≠ m) := fun c => hlen (by rw [c])
    go_enter Tryd.func26, Tryd.ntmps26
    go_wp2
    go_ret
    exact ⟨retB (decide_eq_false HL.out).symm, 0, rfl⟩
/-- A block whose bytes are all one. -/
def bb (c : Int) : List Nat := List.replicate 512 (c % 256).toNat
theorem bb_len (c : Int) : (bb c).length = 512 := List.length_replicate
theorem bb_get (c : Int) (i : Nat) (h : i < 512) : (bb c).getD i 0 = (c % 256).toNat := by
  unfold bb
  rw [List.getD, List.getElem?_replicate, if_pos h]
  rfl
theorem bb_lt (c : Int) : ∀ i, (bb c).getD i 0 < 256 := by
  intro i
  unfold bb
  rw [List.getD, List.getElem?_replicate]
  split
  · have := Int.emod_lt_of_pos c (show (0 : Int) < 256 by decide)
    have := Int.emod_nonneg c (show (256 : Int) ≠ 0 by decide)
    show (c % 256).toNat < 256
    omega
  · decide
structure BAt (c : Int) (k : Nat) (cur : List Nat) : Prop where
  len : cur.length = 512
  at' : ∀ i, i < k → cur.getD i 0 = (c % 256).toNat
theorem getD_set (l : List Nat) (i j c : Nat) (h : j < l.length) : (l.set i c).getD j 0 = if i = j then c else l.getD j 0 := by
  simp only [List.getD, List.getElem?_set]
  by_cases e : i = j
  · subst e; simp [h]
  · simp [e]
theorem BAt.step {c : Int} {k : Nat} {cur : List Nat} (h : BAt c k cur) (hk : k < 512) : BAt c (k + 1) (cur.set k (c % 256).toNat) := by
  refine ⟨by simp [h.len], fun i hi => ?_⟩
  rw [getD_set _ _ _ _ (by rw [h.len]; omega)]
  split
  · rfl
  · exact h.at' i (by omega)
theorem BAt.done {c : Int} {cur : List Nat} (h : BAt c 512 cur) : cur = bb c :=
  list_ext (by rw [h.len, bb_len]) (fun i hi => by rw [h.len] at hi; rw [h.at' i hi, bb_get c i hi])
theorem made_own {B g n : Nat} {w1 : World} (h : w1.ownsRow B 5 1 (.slice (some ⟨g, 0, none⟩) n n) n (madeCells (Value.int .u8 0).cells (n * 1)).toList) : Full w1 g 5 (List.replicate n 0) := by
  have e : (madeCells (Value.int .u8 0).cells (n * 1)).toList = cv (List.replicate n 0) := by
    simp only [madeCells, cv, Value.cells, List.map_replicate]
    rw [List.eq_replicate_iff]
    refine ⟨by simp, ?_⟩
    intro b hb
    simp [Nat.mod_one] at hb
    obtain ⟨_, _, rfl⟩ := hb
    rfl
  rw [e] at h
  rcases h.2 with ⟨q, _⟩ | ⟨g', cap', cur, q, _, hg, hle, hm, hcs, ht⟩
  · cases q
  · injection q with q1 q2 q3
    injection q1 with q1
    injection q1 with q1
    subst q1; subst q3
    unfold Full
    rw [hg]
    have : cur.toList = cv (List.replicate n 0) := by
      rw [List.take_of_length_le (by simp [hcs])] at ht
      exact ht
    rw [← this]
set_option maxRecDepth 100000 in
theorem block_any (c : Int) (w : World) :
    Calls Tryd.prog 14 #[.int .i64 c] w fun e w' => ∃ g, e = .returned (.slice (some ⟨g, 0, none⟩) 512 512) ∧ Full w' g 5 (bb c) ∧ w.heap.size ≤ g ∧ Below w.heap.size w w' := by
  obtain ⟨i0, hi, hz0, hz1, hz2⟩ := info_parts Tryd.info5
  have xb : i0.bytes * 512 ≤ 281474976710656 := by rw [hz2]; omega
  have hv : (((c % 256).toNat : Nat) : Int) = c % 256 := by have := Int.emod_nonneg c (show (256 : Int) ≠ 0 by decide); omega
  go_enter Tryd.func14, Tryd.ntmps14
  go_wp2_with (at_make; refine wpList_make_full _ rfl _ _ 37 rfl w.heap.size 5 i0 (.int .u8 0) 1 Tryd.underlying37 hi hz0 hz1 .i64 .i64 _ _ 512 rfl rfl rfl rfl xb (by decide) (Nat.le_refl _) ?_; intro u1 hown0 hg; have hb1 := below_made hg; have hown := made_own hown0; clear hown0 hg)
  go_loopw [4] (fun i wr => ∃ (k : Nat) (cur : List Nat), k ≤ 512 ∧ i = .int .i64 k ∧ BAt c k cur ∧ Full wr w.heap.size 5 cur ∧ Below w.heap.size w wr) (fun i _ => 512 - (iof i).toNat)
  case atStart => exact ⟨0, _, by omega, rfl, ⟨List.length_replicate, fun i hi => by omega⟩, hown, hb1⟩
  case round =>
    clear hown hb1
    obtain ⟨k, cur, hk, rfl, hat, hful, hbel⟩ := hrel
    by_cases hlt : k < 512
    · have hltI : (k : Int) < 512 := by omega
      have HN : Hid (BAt c (k + 1) (cur.set k (c % 256).toNat)) := hat.step hlt
      have hcell : wr.cell? ⟨w.heap.size, k, none⟩ = some (.int .u8 ((cur.getD k 0 : Nat) : Int)) := by
        rw [cell_of_row _ _ _ _ _ _ hful]
        simpa using cv_get cur k (by rw [hat.len]; exact hlt)
      have hfree := frozen_of_row wr w.heap.size k _ _ hful
      clear hat
      go_wp2
      have e1 := heap_setCell_same wr w.heap.size k (cv cur).toArray 5 (.int .u8 (c % 256)) hful
      have e2 : (cv cur).toArray.setIfInBounds k (.int .u8 (c % 256)) = (cv (cur.set k (c % 256).toNat)).toArray := by rw [cv_set, hv]; simp
      rw [e2] at e1
      exact ⟨⟨k + 1, _, by omega, by go_num, HN.out, e1, hbel.setCell (Nat.le_refl _) _⟩, by simp [iof]; omega⟩
    · obtain rfl : k = 512 := by omega
      have HD : Hid (cur = bb c) := hat.done
      clear hat
      go_wp2
      go_ret
      exact ⟨w.heap.size, rfl, by rw [← HD.out]; exact hful, Nat.le_refl _, hbel⟩
theorem round_any (k : Int) (n : Nat) (w : World) (h1 : -9223372036854775808 ≤ k) (h2 : k ≤ 9223372036854775807) (hn : 1 ≤ n) (hn2 : n ≤ 1000000) :
    Calls Tryd.prog 11 #[.int .i64 k, .int .i64 (n : Int)] w fun e w' => e = .returned (.int .i64 (((k % (n : Int)).toNat : Nat) : Int)) ∧ w' = w := by
  have hnI : (1 : Int) ≤ (n : Int) := by omega
  have hnJ : (n : Int) ≤ 1000000 := by omega
  have hn0 : ((n : Int) == 0) = false := by simp; omega
  have hne : (n : Int) ≠ 0 := by omega
  have e1 := Int.emod_nonneg k hne
  have e2 := Int.emod_lt_of_pos k (show 0 < (n : Int) by omega)
  have HE : Hid ((((k % (n : Int)).toNat : Nat) : Int) = k % (n : Int)) := by show _ = _; omega
  have HT : Hid (Int.tmod k (n : Int) = if 0 ≤ k ∨ k % (n : Int) = 0 then k % (n : Int) else k % (n : Int) - (n : Int)) := by
    show _ = _
    rw [Int.tmod_eq_emod]
    by_cases h : 0 ≤ k
    · simp [h]
    · by_cases hd : (n : Int) ∣ k
      · simp [hd, Int.emod_eq_zero_of_dvd hd]
      · have : ¬ k % (n : Int) = 0 := fun q => hd (Int.dvd_of_emod_eq_zero q)
        simp [h, hd, this]
  go_enter Tryd.func11, Tryd.ntmps11
  go_wp2
  · have h : k.tmod (n : Int) < 0 := by assumption
    have ht := HT.out
    go_ret
    refine ⟨retI ?_, rfl⟩
    rw [HE.out]
    generalize k.tmod (n : Int) = z at *
    generalize k % (n : Int) = y at *
    unfold wrap64
    split at ht <;> omega
  · have h : 0 ≤ k.tmod (n : Int) := by assumption
    have ht := HT.out
    go_ret
    refine ⟨retI ?_, rfl⟩
    rw [HE.out]
    generalize k.tmod (n : Int) = z at *
    generalize k % (n : Int) = y at *
    split at ht <;> omega
end Go.Proofs.YtohncckmennfbaaDoor
