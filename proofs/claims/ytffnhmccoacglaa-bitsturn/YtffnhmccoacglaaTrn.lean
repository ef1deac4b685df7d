/- The walk of BitsTurn: true for every argument, and nothing that was there is turned. -/
import Derived.Test.YtffnhmccoacglaaPut
namespace Go.Proofs.Ytffnhmccoacglaa
set_option linter.unusedSimpArgs false
set_option linter.unusedVariables false
open Go.RowKit
theorem made_row {B g n : Nat} {w1 : World} (h : w1.ownsRow B 5 1 (.slice (some ⟨g, 0, none⟩) n n) n (madeCells (Value.int .u8 0).cells (n * 1)).toList) : Own B w1 g n (List.replicate n 0) := by
  have e : (madeCells (Value.int .u8 0).cells (n * 1)).toList = cv (List.replicate n 0) := by
    rw [Nat.mul_one]
    show (madeCells #[Value.int .u8 0] n).toList = _
    rw [toList_madeCells_one]
    simp [cv]
  unfold Own
  rw [List.length_replicate, ← e]
  exact h
theorem rep_lt (n : Nat) : ∀ i, (List.replicate n 0).getD i 0 < 256 := by
  intro i; simp [List.getD, List.getElem?_replicate]; split <;> simp
theorem turn_at (n V i : Nat) (hi : i < n) : (putL (List.replicate n 0) 0 n true V).getD i 0 = (putL (List.replicate n 0) 0 n false V).getD (n - 1 - i) 0 := by
  rw [putL_get _ _ _ _ _ _ (by simpa using hi), putL_get _ _ _ _ _ _ (by simp; omega), if_pos (by omega), if_pos (by omega)]
  simp [plc]
set_option maxRecDepth 100000 in
theorem bitsTurn_walk (a0 : Int) (a1 : Int) (w : World) (w0 : (Lit.int .u64 a0).wf = true) (w1 : (Lit.int .i64 a1).wf = true) :
    Calls Try.prog 9 #[.int .u64 a0, .int .i64 a1] w fun e w' => e = .returned (.bool true) ∧ Below w.heap.size w w' := by
  obtain ⟨b0, b1⟩ := bdu64 w0
  obtain ⟨V, rfl⟩ := Int.eq_ofNat_of_zero_le b0
  clear w0 w1
  by_cases h1 : a1 < 1
  · go_enter Try.func9, Try.ntmps9
    go_wp2_with (go_at_call 14; refine (awake_any _).mono ?_; rintro e w' ⟨rfl, hb⟩)
    go_ret
    exact ⟨rfl, by assumption⟩
  by_cases h2 : 8 < a1
  · go_enter Try.func9, Try.ntmps9
    go_wp2_with (go_at_call 14; refine (awake_any _).mono ?_; rintro e w' ⟨rfl, hb⟩)
    go_ret
    exact ⟨rfl, by assumption⟩
  obtain ⟨n, rfl⟩ := Int.eq_ofNat_of_zero_le (show 0 ≤ a1 by omega)
  have hV : V ≤ 18446744073709551615 := by omega
  obtain ⟨i0, hi, hz0, hz1, hz2⟩ := info_parts Try.info5
  have HA : ∀ i, i < n → Hid ((putL (List.replicate n 0) 0 n true V).getD i 0 = (putL (List.replicate n 0) 0 n false V).getD (n - 1 - i) 0) := fun i hi => turn_at n V i hi
  have hnn : ((n : Int) != (n : Int)) = false := by simp
  go_enter Try.func9, Try.ntmps9
  go_wp2_with (at_make; refine wpList_make_full _ rfl _ _ 22 rfl w.heap.size 5 i0 (.int .u8 0) 1 Try.underlying22 hi hz0 hz1 .i64 .i64 _ _ n rfl rfl rfl rfl (by rw [hz2]; omega) (by unfold maxLen; omega) (Nat.le_refl _) ?_; intro w1 hown hg; have hz := made_row hown; have hbel := below_made hg; clear hown hg)
  have hp := put_yes (some ⟨w.heap.size, 0, none⟩) n (List.replicate n 0) 0 n true V w1 (hz.row (rep_lt n)) (by simp; omega) (by omega) (by omega) (by simp) hV
  rw [List.length_replicate] at hp
  refine hp.mono ?_
  clear hp hz
  rintro e w2 ⟨⟨g, rfl, hownA⟩, hbel2⟩
  have HB2 : Hid (Below w.heap.size w w2) := hbel.trans (hbel2.mono hbel.size)
  clear hbel hbel2
  go_wp2_with (at_make; refine wpList_make_full _ rfl _ _ 22 rfl w2.heap.size 5 i0 (.int .u8 0) 1 Try.underlying22 hi hz0 hz1 .i64 .i64 _ _ n rfl rfl rfl rfl (by rw [hz2]; omega) (by unfold maxLen; omega) (Nat.le_refl _) ?_; intro w3 hown hg; have hz := made_row hown; have hbel := below_made hg; clear hown hg)
  have hp := put_yes (some ⟨w2.heap.size, 0, none⟩) n (List.replicate n 0) 0 n false V w3 (hz.row (rep_lt n)) (by simp; omega) (by omega) (by omega) (by simp) hV
  rw [List.length_replicate] at hp
  refine hp.mono ?_
  clear hp hz
  rintro e w4 ⟨⟨g', rfl, hownB⟩, hbel2⟩
  have hb4 : Below w2.heap.size w2 w4 := hbel.trans (hbel2.mono hbel.size)
  have hownA' := hownA.below hb4
  have HB4 : Hid (Below w.heap.size w w4) := HB2.out.trans (hb4.mono HB2.out.size)
  have hla : (putL (List.replicate n 0) 0 n true V).length = n := by rw [putL_length]; simp
  have hlb : (putL (List.replicate n 0) 0 n false V).length = n := by rw [putL_length]; simp
  have HCA : Hid (∀ i, i < n → w4.cell? ⟨g, i, none⟩ = some (.int .u8 (((putL (List.replicate n 0) 0 n true V).getD i 0 : Nat) : Int))) := fun i hi => hownA'.cell i (by rw [hla]; exact hi)
  have HCB : Hid (∀ i, i < n → w4.cell? ⟨g', i, none⟩ = some (.int .u8 (((putL (List.replicate n 0) 0 n false V).getD i 0 : Nat) : Int))) := fun i hi => hownB.cell i (by rw [hlb]; exact hi)
  clear hbel hbel2 hb4 hownA hownB hownA' hla hlb HB2
  generalize putL (List.replicate n 0) 0 n true V = la at *
  generalize putL (List.replicate n 0) 0 n false V = lb at *
  go_wp2_with fail
  go_loopw [9] (fun i wr => ∃ k m : Nat, k ≤ n ∧ i = .int .i64 k ∧ wr = w4.drewN m) (fun i _ => n - (intOf i).toNat)
  case atStart => exact ⟨0, 0, by omega, rfl, rfl⟩
  case round =>
    obtain ⟨k, m, hk, rfl, rfl⟩ := hrel
    by_cases hlt : k < n
    · have c1 := HCA.out k hlt
      have c2 := HCB.out (n - 1 - k) (by omega)
      have HE := HA k hlt
      rw [← HE.out] at c2
      generalize la.getD k 0 = x at *
      have hltI : (k : Int) < (n : Int) := by omega
      have hxx : ((x : Int) != (x : Int)) = false := by simp
      have hw : ((n : Int) - 1 - (k : Int)) < (n : Int) := by omega
      have hw0 : 0 ≤ ((n : Int) - 1 - (k : Int)) := by omega
      clear HA HE HCA HCB
      go_wp2_with fail
      go_quiet (fail)
      go_wp2
      exact ⟨⟨k + 1, m + nq, by omega, by go_num, rfl⟩, by simp [intOf]; omega⟩
    · go_wp2_with (go_at_call 14; refine (awake_any _).mono ?_; rintro e w' ⟨rfl, hb⟩)
      go_ret
      exact ⟨rfl, (below_drewN HB4.out m).trans (Below.mono (by assumption) HB4.out.size)⟩
end Go.Proofs.Ytffnhmccoacglaa
