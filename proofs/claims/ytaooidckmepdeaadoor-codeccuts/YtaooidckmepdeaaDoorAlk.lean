/- What the laws lean on: two rows alike, a number brought into a range. -/
import Derived.Test.YtaooidckmepdeaaDoorMem
import Derived.OwnWalk
namespace Go.Proofs.YtaooidckmepdeaaDoor
set_option linter.unusedSimpArgs false
set_option linter.unusedVariables false
open Go.RowKit
theorem bytes_any (a : Option Addr) (capa : Nat) (l : List Nat) (b : Option Addr) (capb : Nat) (m : List Nat) (w : World) (ha : Row w a l) (hb : Row w b m) (hl : l.length ≤ maxLen) (hm : m.length ≤ maxLen) :
    Calls Tryd.prog 13 #[.slice a l.length capa, .slice b m.length capb] w fun e w' => e = .returned (.bool (decide (l = m))) ∧ ∃ n, w' = w.drewN n := by
  unfold maxLen at hl hm
  by_cases hlen : l.length = m.length
  · have hne : ((l.length : Int) != (m.length : Int)) = false := by simp [hlen]
    have HL : Hid (l.length = m.length) := hlen
    clear hlen
    go_enter Tryd.func13, Tryd.ntmps13
    go_wp2
    go_loopw [5] (fun i wr => ∃ k n : Nat, k ≤ l.length ∧ i = .int .i64 k ∧ wr = w.drewN n ∧ ∀ j, j < k → l.getD j 0 = m.getD j 0) (fun i _ => l.length - (iof i).toNat)
    case atStart => exact ⟨0, 0, by omega, rfl, rfl, by intro j hj; omega⟩
    case round =>
      obtain ⟨k, n, hk, rfl, rfl, hsame⟩ := hrel
      have HS : Hid (∀ j, j < k → l.getD j 0 = m.getD j 0) := hsame
      clear hsame
      by_cases hlt : k < l.length
      · obtain ⟨b1, o1, rfl, c1, l1⟩ := ha k hlt
        obtain ⟨b2, o2, rfl, c2, l2⟩ := hb k (by rw [← HL.out]; exact hlt)
        have hltm : k < m.length := by rw [← HL.out]; exact hlt
        have HQ : Hid (l.getD k 0 = m.getD k 0 → ∀ j, j < k + 1 → l.getD j 0 = m.getD j 0) := by
          intro e j hj
          by_cases hjk : j = k
          · subst hjk; exact e
          · exact HS.out j (by omega)
        have HD : Hid (l.getD k 0 ≠ m.getD k 0 → l ≠ m) := by intro e c; rw [c] at e; exact e rfl
        clear ha hb
        have hltI : (k : Int) < (l.length : Int) := by omega
        have hltJ : (k : Int) < (m.length : Int) := by omega
        generalize l.getD k 0 = x at *
        generalize m.getD k 0 = y at *
        go_wp2
        go_quiet (fail)
        go_wp2
        · have hxy : ((x : Int) != (y : Int)) = true := by assumption
          go_ret
          exact ⟨retB (decide_eq_false (HD.out (by rw [bne_iff_ne] at hxy; omega))).symm, n + nq, World.drewN_drewN _ _ _⟩
        · have hxy : ((x : Int) != (y : Int)) = false := by assumption
          have hxy2 : x = y := by have := WalkArith.int_eq' hxy; omega
          exact ⟨⟨k + 1, n + nq, by omega, by go_num, rfl, HQ.out hxy2⟩, by simp [iof]; omega⟩
      · go_wp2
        go_ret
        refine ⟨retB (decide_eq_true ?_).symm, n, rfl⟩
        exact list_ext HL.out (fun i hi => HS.out i (by omega))
  · have hne : ((l.length : Int) != (m.length : Int)) = true := by rw [bne_iff_ne]; omega
    have HL : Hid (l ≠ m) := fun c => hlen (by rw [c])
    go_enter Tryd.func13, Tryd.ntmps13
    go_wp2
    go_ret
    exact ⟨retB (decide_eq_false HL.out).symm, 0, rfl⟩
theorem getD_set (l : List Nat) (i j c : Nat) (h : j < l.length) : (l.set i c).getD j 0 = if i = j then c else l.getD j 0 := by
  simp only [List.getD, List.getElem?_set]
  by_cases e : i = j
  · subst e; simp [h]
  · simp [e]
theorem round_any (k : Int) (n : Nat) (w : World) (h1 : -9223372036854775808 ≤ k) (h2 : k ≤ 9223372036854775807) (hn : 1 ≤ n) (hn2 : n ≤ 1000000) :
    Calls Tryd.prog 20 #[.int .i64 k, .int .i64 (n : Int)] w fun e w' => e = .returned (.int .i64 (((k % (n : Int)).toNat : Nat) : Int)) ∧ w' = w := by
  have hnI : (1 : Int) ≤ (n : Int) := by omega
  have hnJ : (n : Int) ≤ 1000000 := by omega
  have hn0 : ((n : Int) == 0) = false := by simp; omega
  have hne : (n : Int) ≠ 0 := by omega
  have e1 := Int.emod_nonneg k hne
  have e2 := Int.emod_lt_of_pos k (show 0 < (n : Int) by omega)
  have HE : Hid ((((k % (n : Int)).toNat : Nat) : Int) = k % (n : Int)) := by show _ = _; omega
  have HT : Hid (Int.tmod k (n : Int) = if 0 ≤ k ∨ k % (n : Int) = 0 then k % (n : Int) else k % (n : Int) - (n : Int)) := by
    show _ = _
    rw [Int.tmod_eq_emod]
    by_cases h : 0 ≤ k
    · simp [h]
    · by_cases hd : (n : Int) ∣ k
      · simp [hd, Int.emod_eq_zero_of_dvd hd]
      · have : ¬ k % (n : Int) = 0 := fun q => hd (Int.dvd_of_emod_eq_zero q)
        simp [h, hd, this]
  go_enter Tryd.func20, Tryd.ntmps20
  go_wp2
  · have h : k.tmod (n : Int) < 0 := by assumption
    have ht := HT.out
    go_ret
    refine ⟨retI ?_, rfl⟩
    rw [HE.out]
    generalize k.tmod (n : Int) = z at *
    generalize k % (n : Int) = y at *
    unfold wrap64
    split at ht <;> omega
  · have h : 0 ≤ k.tmod (n : Int) := by assumption
    have ht := HT.out
    go_ret
    refine ⟨retI ?_, rfl⟩
    rw [HE.out]
    generalize k.tmod (n : Int) = z at *
    generalize k % (n : Int) = y at *
    split at ht <;> omega
end Go.Proofs.YtaooidckmepdeaaDoor
