/- What the document's own Unvarint and Varint return: the same as those of bits. -/
import Derived.Test.YtgpeldmplkijlaaDoorUnv
namespace Go.Proofs.YtgpeldmplkijlaaDoor
set_option linter.unusedSimpArgs false
set_option linter.unusedVariables false
open Go.RowKit
set_option maxRecDepth 100000 in
theorem runv_any (a : Option Addr) (cap : Nat) (l : List Nat) (w : World) (hr : Row w a l) (hl : l.length ≤ maxLen) :
    Calls Tryd.prog 56 #[.slice a l.length cap] w fun e w' => e = .returned (.tuple #[.int .u64 ((uv l 0 0).1 : Nat), .int .i64 ((uv l 0 0).2 : Nat)]) ∧ w' = w := by
  unfold maxLen at hl
  obtain ⟨r, HR⟩ : ∃ r, Hid (uv l 0 0 = r) := ⟨_, rfl⟩
  rw [HR.out]
  go_enter Tryd.func56, Tryd.ntmps56
  go_wp2
  go_loop [4, 5] (fun v i => ∃ k V : Nat, k ≤ l.length ∧ k ≤ 9 ∧ i = .int .i64 k ∧ v = .int .u64 V ∧ UvAt l r k V) (fun _ i => l.length - (intOf i).toNat)
  case atStart => exact ⟨0, 0, by omega, by omega, rfl, rfl, by omega, HR.out⟩
  case round =>
    obtain ⟨k, V, hk, hk9, rfl, rfl, hV, hu⟩ := hrel
    have HU : Hid (uv (l.drop k) k V = r) := hu
    clear hu HR
    by_cases hlt : k < l.length
    · obtain ⟨b, off, rfl, hc, hlt2⟩ := hr k hlt
      have HC : Hid (uv (l.getD k 0 :: l.drop (k + 1)) k V = r) := by rw [← drop_at l k hlt]; exact HU
      clear hr HU
      generalize l.getD k 0 = c at *
      have HV : Hid (V < 128 ^ k) := hV
      clear hV
      have h127 := u8_and127 c hlt2
      have hltI : (k : Int) < (l.length : Int) := by omega
      by_cases h9 : k = 9 ∧ 1 < c
      · have HE : Hid (r = (0, 0)) := by rw [← HC.out, uv_cons, if_pos h9]; exact rfl
        have hk9' : ((k : Int) == 9) = true := by rw [beq_iff_eq]; omega
        have h1c : 1 < (c : Int) := by omega
        clear HC h9
        go_wp2
        go_ret2
        rw [HE.out]
        exact ⟨rfl, rfl⟩
      · have HOR : Hid (bits .or .u64 (V : Int) (IntKind.u64.wrap ((c : Int) % 128 * 2 ^ (7 * k))) = ((V + c % 128 * 128 ^ k : Nat) : Int)) :=
          or7 V (c % 128) k hk9 (by intro e; have : c ≤ 1 := by omega
                                    omega) HV.out (by omega)
        have hd9 : ((k : Int) == 9 && decide (1 < (c : Int))) = false := by
          by_cases h : k = 9
          · have : c ≤ 1 := by omega
            simp; intro _; omega
          · simp; intro e; omega
        by_cases h128 : 128 ≤ c
        · have HE : Hid (uv (l.drop (k + 1)) (k + 1) (V + c % 128 * 128 ^ k) = r) := by rw [← HC.out, uv_cons, if_neg h9, if_pos h128]; exact rfl
          have hk9' : k ≠ 9 := by intro e; exact h9 ⟨e, by omega⟩
          have hkb : ((k : Int) == 9) = false := by rw [beq_eq_false_iff_ne]; omega
          clear HC h9 hd9
          go_wp2
          go_round
          case rel => exact ⟨k + 1, V + c % 128 * 128 ^ k, by omega, by omega, by go_num, by rw [HOR.out], grow7 V c k HV.out, HE.out⟩
          case measure => simp [intOf]; omega
        · by_cases h00 : c = 0 ∧ 0 < k
          · have HE : Hid (r = (0, 0)) := by rw [← HC.out, uv_cons, if_neg h9, if_neg h128, if_pos h00]; exact rfl
            obtain ⟨rfl, hk0⟩ := h00
            clear HC h9
            by_cases hk9' : ((k : Int) == 9) = true
            · go_wp2
              go_ret2
              rw [HE.out]
              exact ⟨rfl, rfl⟩
            · have hk9'' : ((k : Int) == 9) = false := by simpa using hk9'
              clear hk9'
              go_wp2
              go_ret2
              rw [HE.out]
              exact ⟨rfl, rfl⟩
          · have HE : Hid (r = (V + c % 128 * 128 ^ k, k + 1)) := by rw [← HC.out, uv_cons, if_neg h9, if_neg h128, if_neg h00]; exact rfl
            clear HC
            have hc1 : ¬ 128 ≤ (c : Int) := by omega
            by_cases hk9' : ((k : Int) == 9) = true
            · have hk : k = 9 := by have := WalkArith.int_eq hk9'; omega
              have hc1 : ¬ 1 < (c : Int) := by intro e; exact h9 ⟨hk, by omega⟩
              have hc0 : ((c : Int) == 0) = false := by rw [beq_eq_false_iff_ne]; intro e; exact h00 ⟨by omega, by omega⟩
              clear h9 h00 hk hd9
              go_wp2
              go_ret2
              rw [HE.out]
              exact ⟨retII (by rw [HOR.out]) (by omega), rfl⟩
            · have hk9'' : ((k : Int) == 9) = false := by simpa using hk9'
              clear hk9'
              by_cases hc0 : ((c : Int) == 0) = true
              · have hk0 : ¬ (0 : Int) < k := by have := WalkArith.int_eq hc0; intro e; exact h00 ⟨by omega, by omega⟩
                clear h9 h00 hd9
                go_wp2
                go_ret2
                rw [HE.out]
                exact ⟨retII (by rw [HOR.out]) (by omega), rfl⟩
              · have hc0' : ((c : Int) == 0) = false := by simpa using hc0
                clear h9 h00 hc0 hd9
                go_wp2
                go_ret2
                rw [HE.out]
                exact ⟨retII (by rw [HOR.out]) (by omega), rfl⟩
    · have HE : Hid (r = (0, 0)) := by rw [← HU.out, List.drop_eq_nil_of_le (by omega)]; exact rfl
      go_wp2
      go_ret2
      rw [HE.out]
      exact ⟨rfl, rfl⟩
theorem u64_and127 (V : Nat) (h : V ≤ 18446744073709551615) : bits .and .u64 (V : Int) 127 = ((V % 128 : Nat) : Int) := by
  rw [u64_and _ _ (by omega) (by omega) (by omega) (by omega), show ((127 : Int).toNat) = 2 ^ 7 - 1 by decide, Nat.and_two_pow_sub_one_eq_mod]
  simp
theorem u64_or128 (V : Nat) (h : V ≤ 18446744073709551615) : bits .or .u64 ((V : Int) % 128) 128 = ((V % 128 + 128 : Nat) : Int) := by
  rw [u64_or _ _ (by omega) (by omega) (by omega) (by omega)]
  have := or128_nat ⟨V % 128, by omega⟩
  simp only at this
  rw [show ((V : Int) % 128).toNat = V % 128 by omega, show ((128 : Int).toNat) = 128 by decide, this]
  omega
set_option maxHeartbeats 400000 in
set_option maxRecDepth 100000 in
theorem rvarint_any (V0 : Nat) (w : World) (hV : V0 ≤ 18446744073709551615) :
    Calls Tryd.prog 68 #[.int .u64 V0] w fun e w' => ∃ v, e = .returned v ∧ w'.ownsRow w.heap.size 5 1 v (groups V0).length (cv (groups V0)) ∧ Below w.heap.size w w' := by
  obtain ⟨i0, hi, hz0, hz1, hz2⟩ := info_parts Tryd.info5
  obtain ⟨out, HO⟩ : ∃ out, Hid (out = groups V0) := ⟨_, rfl⟩
  rw [← HO.out]
  go_enter Tryd.func68, Tryd.ntmps68
  go_wp2
  go_loopw [0, 3] (fun v b wr => ∃ (V : Nat) (acc : List Nat), v = .int .u64 V ∧ VrAt out acc V ∧ wr.ownsRow w.heap.size 5 1 b acc.length (cv acc) ∧ Below w.heap.size w wr) (fun v _ _ => (intOf v).toNat)
  case atStart => exact ⟨V0, [], rfl, by rw [HO.out]; exact VrAt.start V0 hV, World.ownsRow_nil _ _ _ _, Below.refl _ _⟩
  case round =>
    obtain ⟨V, acc, rfl, hA, hown, hbel⟩ := hrel
    have hVb := hA.bd
    have hlen := hA.len
    have hsz := hbel.size
    by_cases h128 : 128 ≤ V
    · have hm := hA.more h128
      have HM : Hid (VrAt out (acc ++ [V % 128 + 128]) (V / 128)) := hm
      have hor := u64_or128 V hVb
      have hand := u64_and127 V hVb
      clear hm hA
      go_wp2_with (at_builtin; refine wpList_append_own _ rfl _ _ 27 rfl w.heap.size 5 i0 (.int .u8 0) 1 1 Tryd.underlying27 hi hz0 hz1 hz2 rfl (by decide) _ _ _ rfl (hown.alloc _) ⟨wr.heap.size, 0, none⟩ 1 1 (cv [V % 128 + 128]) rfl rfl (one_cell (by omega)) (cv_one _) (by unfold maxLen; omega) (by omega) (by simp; omega) ?_)
      intro v' w1 hown' hgrow _
      have R := own_step hown hbel hsz hown' hgrow
      clear hown' hgrow hown hbel
      go_wp2
      exact ⟨⟨V / 128, acc ++ [V % 128 + 128], by go_num, HM.out, R.1, R.2⟩, by simp [intOf]; omega⟩
    · have hst := hA.stop (by omega)
      have HS : Hid (acc ++ [V] = out) := hst
      clear hst hA
      have hv1 : ¬ 128 ≤ (V : Int) := by omega
      go_wp2_with (at_builtin; refine wpList_append_own _ rfl _ _ 27 rfl w.heap.size 5 i0 (.int .u8 0) 1 1 Tryd.underlying27 hi hz0 hz1 hz2 rfl (by decide) _ _ _ rfl (hown.alloc _) ⟨wr.heap.size, 0, none⟩ 1 1 (cv [V]) rfl rfl (one_cell rfl) (cv_one _) (by unfold maxLen; omega) (by omega) (by simp; omega) ?_)
      intro v' w1 hown' hgrow _
      have R := own_step hown hbel hsz hown' hgrow
      clear hown' hgrow hown hbel
      go_wp2
      go_ret
      exact ⟨v', rfl, by rw [← HS.out]; exact R.1, R.2⟩
end Go.Proofs.YtgpeldmplkijlaaDoor
