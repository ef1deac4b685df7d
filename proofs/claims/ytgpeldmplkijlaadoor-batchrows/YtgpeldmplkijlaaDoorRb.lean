/- The document's own Lay; its body. -/
import Derived.Test.YtgpeldmplkijlaaDoorHd
import Derived.Test.YtgpeldmplkijlaaDoorEa
import Derived.Test.YtgpeldmplkijlaaDoorRs
namespace Go.Proofs.YtgpeldmplkijlaaDoor
set_option linter.unusedSimpArgs false
set_option linter.unusedVariables false
open Go.RowKit
/-- The first k bytes of a number of n. -/
theorem lay_take (n V k : Nat) (h : k < n) : (lay n V).take (k + 1) = (lay n V).take k ++ [V / 256 ^ (n - 1 - k) % 256] := by
  rw [List.take_succ_eq_append_getElem (by rw [lay_len]; exact h)]
  simp [lay]
set_option maxHeartbeats 800000 in
set_option maxRecDepth 100000 in
theorem lay_any (v : Value) (l : List Nat) (n V : Nat) (w w0 : World) (B : Nat) (hown : w.ownsRow B 5 1 v l.length (cv l)) (hB : Below B w0 w) (hB0 : B ≤ w0.heap.size) (hl : l.length ≤ 1000) (hn : n ≤ 8) (hV : V ≤ 18446744073709551615) :
    Calls Tryd.prog 34 #[v, .int .i64 n, .int .u64 V] w fun e w' => ∃ v', e = .returned v' ∧ w'.ownsRow B 5 1 v' (l ++ lay n V).length (cv (l ++ lay n V)) ∧ Below B w0 w' := by
  obtain ⟨i0, hi, hz0, hz1, hz2⟩ := info_parts Tryd.info5
  obtain ⟨F, HF⟩ : ∃ F : Nat → List Nat, Hid (∀ k, l ++ (lay n V).take k = F k) := ⟨_, fun _ => rfl⟩
  have HS : Hid (∀ k, k < n → F (k + 1) = F k ++ [V / 256 ^ (n - 1 - k) % 256]) := fun k hk => by rw [← HF.out, ← HF.out, lay_take n V k hk, List.append_assoc]
  have HF0 : Hid (F 0 = l) := by show _ = _; rw [← HF.out]; simp
  have HFn : Hid (F n = l ++ lay n V) := by show _ = _; rw [← HF.out, List.take_of_length_le (by rw [lay_len]; omega)]
  have HFl : Hid (∀ k, k ≤ n → (F k).length ≤ 1100) := fun k hk => by rw [← HF.out, List.length_append, List.length_take]; omega
  rw [← HFn.out]
  go_enter Tryd.func34, Tryd.ntmps34
  go_wp2_with fail
  go_loopw [0, 7] (fun p i wr => ∃ k : Nat, k ≤ n ∧ i = .int .i64 ((n : Int) - 1 - k) ∧ wr.ownsRow B 5 1 p (F k).length (cv (F k)) ∧ Below B w0 wr) (fun _ i _ => (intOf i + 1).toNat)
  case atStart => exact ⟨0, by omega, by go_num, by rw [HF0.out]; exact hown, hB⟩
  case round =>
    clear hown hB
    obtain ⟨k, hk, rfl, hown, hB⟩ := hrel
    have hBs : B ≤ wr.heap.size := Nat.le_trans hB0 hB.size
    by_cases hlt : k < n
    · have HL : Hid (F (k + 1) = F k ++ [V / 256 ^ (n - 1 - k) % 256]) := HS.out k hlt
      have hfl := HFl.out k hk
      obtain ⟨j, HJ⟩ : ∃ j, Hid (n - 1 - k = j) := ⟨_, rfl⟩
      have hj : (n : Int) - 1 - k = (j : Int) := by have := HJ.out; omega
      have hj8 : j < 8 := by have := HJ.out; omega
      have hjn : j < n := by have := HJ.out; omega
      rw [HJ.out] at HL
      rw [hj]
      have x1 : IntKind.i64.wrap (8 * (j : Int)) = 8 * (j : Int) := by rw [IntKind.wrap_i64]; omega
      have x3 : (0 : Int) ≤ 8 * (j : Int) := by omega
      have x4 : 8 * (j : Int) ≤ 64 := by omega
      have x5 : (8 * (j : Int)).toNat = 8 * j := by omega
      have hby := byte_at V j
      have x8 : IntKind.u8.wrap ((V : Int) / 2 ^ (8 * j)) = ((V / 256 ^ j % 256 : Nat) : Int) := by rw [IntKind.wrap_u8, hby]
      have HJI : Hid ((n : Int) - 1 - ((k + 1 : Nat) : Int) = (j : Int) - 1) := by have := HJ.out; show _ = _; omega
      clear hby hj
      generalize V / 256 ^ j % 256 = d at *
      go_wp2_with (at_builtin; refine wpList_append_own _ rfl _ _ 27 rfl B 5 i0 (.int .u8 0) 1 1 Tryd.underlying27 hi hz0 hz1 hz2 rfl (by decide) _ _ _ rfl (hown.alloc _) ⟨wr.heap.size, 0, none⟩ 1 1 (cv [d]) rfl rfl (one_cell rfl) (cv_one _) (by unfold maxLen; omega) (by omega) (by simp; omega) ?_; intro v2 w2 hown2 hg2 hq; obtain ⟨hR, hB2⟩ := own_step hown hB hBs hown2 hg2; have hBs2 := hB2.size; clear hown2 hg2 hq)
      exact ⟨⟨k + 1, by omega, by rw [HJI.out], by rw [HL.out]; exact hR, hB2⟩, by simp [intOf]⟩
    · obtain rfl : k = n := by omega
      have hlt2 : ¬ (0 : Int) ≤ (k : Int) - 1 - k := by omega
      go_wp2_with fail
      go_ret
      exact ⟨_, rfl, hown, hB⟩
theorem renc_of {r : Rc} {first : Int} (hc : chk r = 0) (hf : timeB first = true) : Enc 50 r first := fun w => by
  have hE : encE r first = 0 := by simp [encE, hc, hf]
  have hR : encR r first = encL r first := by simp [encR, hE]
  refine (rencode_any r first w).mono ?_
  rintro e w' ⟨v, rfl, hown, hb⟩
  rw [hR] at hown
  obtain ⟨a, c, rfl, hr, hn⟩ := owns_sl hown (encL_lt r first hc hf)
  exact ⟨a, c, by rw [hE], hr, hn, hb⟩
end Go.Proofs.YtgpeldmplkijlaaDoor
