/- The walk of BitsFirst: true for every argument, and nothing that was there is turned. -/
import Derived.Test.YtffnhmccoacglaaRbt
namespace Go.Proofs.Ytffnhmccoacglaa
set_option linter.unusedSimpArgs false
set_option linter.unusedVariables false
open Go.RowKit
theorem cnt_full (l : List Nat) (m : Nat) (h : ∀ k, k < m → tst l k = true) : cnt l m = m := by
  induction m with
  | zero => rfl
  | succ m ih => rw [cnt, ih (fun k hk => h k (by omega)), h m (by omega)]; rfl
theorem cnt_setL (l : List Nat) (k m : Nat) (hb : ∀ j, l.getD j 0 < 256) (hk : tst l k = false) (hm : m ≤ 8 * l.length) : cnt (setL l k true) m = cnt l m + if k < m then 1 else 0 := by
  induction m with
  | zero => simp [cnt]
  | succ m ih =>
    rw [cnt, cnt, ih (by omega), tst_setL l k true m hb (by omega)]
    by_cases e : m = k
    · subst e; simp [hk]
    · simp only [show ¬ ((m : Int) = (k : Int)) by omega, if_false]
      by_cases h : k < m
      · simp only [h, show k < m + 1 by omega, if_true]; omega
      · simp only [h, show ¬ k < m + 1 by omega, if_false]; omega
set_option maxRecDepth 100000 in
set_option maxHeartbeats 800000 in
theorem bitsFirst_walk (a0 : Option Addr) (cap0 : Nat) (l0 : List Nat) (a1 : Int) (w : World) (w0 : Row w a0 l0) (m0 : l0.length ≤ maxLen) (w1 : (Lit.int .i64 a1).wf = true) :
    Calls Try.prog 8 #[.slice a0 l0.length cap0, .int .i64 a1] w fun e w' => e = .returned (.bool true) ∧ Below w.heap.size w w' := by
  obtain ⟨b0, b1⟩ := bd64 w1
  clear w1
  by_cases hl : 2000 < (l0.length : Int)
  · go_enter Try.func8, Try.ntmps8
    go_wp2_with (go_at_call 14; refine (awake_any _).mono ?_; rintro e w' ⟨rfl, hb⟩)
    go_ret
    exact ⟨rfl, by assumption⟩
  by_cases hn : a1 < 0
  · go_enter Try.func8, Try.ntmps8
    go_wp2_with (go_at_call 14; refine (awake_any _).mono ?_; rintro e w' ⟨rfl, hb⟩)
    go_ret
    exact ⟨rfl, by assumption⟩
  by_cases hn2 : 16000 < a1
  · go_enter Try.func8, Try.ntmps8
    go_wp2_with (go_at_call 14; refine (awake_any _).mono ?_; rintro e w' ⟨rfl, hb⟩)
    go_ret
    exact ⟨rfl, by assumption⟩
  obtain ⟨n, rfl⟩ := Int.eq_ofNat_of_zero_le (show 0 ≤ a1 by omega)
  have hl2 : l0.length ≤ 2000 := by omega
  go_enter Try.func8, Try.ntmps8
  go_wp2_with fail
  refine (first_any a0 cap0 l0 n w w0 hl2).mono ?_
  rintro e w1 ⟨⟨r, rfl, hfirst⟩, rfl⟩
  rcases hfirst with ⟨k, rfl, h1, h2, h3, h4⟩ | ⟨rfl, hall⟩
  · have hkl : k < 8 * l0.length := by omega
    have hkn : (k : Int) < (n : Int) := h1
    have HT0 : Hid (tstI l0 k = false) := by rw [tstI_nat]; exact h3
    have HT1 : Hid (tst (setL l0 k true) k = true) := by show _ = _; rw [tst_setL l0 k true k w0.lt hkl, if_pos rfl]
    have HCn : Hid (cntI (setL l0 k true) n = cntI l0 n + 1) := by
      show _ = _
      unfold cntI
      rw [setL_length, Int.toNat_natCast, cnt_setL l0 k _ w0.lt h3 (by omega), if_pos (by omega)]
      omega
    have HF : Hid (∀ j, j < k → tst l0 j = true) := h4
    have hcb : 0 ≤ cntI l0 n ∧ cntI l0 n ≤ 16000 := by
      unfold cntI
      have := cnt_le l0 (min (n : Int).toNat (8 * l0.length))
      omega
    have HLb : Hid (∀ j, (setL l0 k true).getD j 0 < 256) := setL_lt l0 k true w0.lt
    have HLn : Hid ((setL l0 k true).length = l0.length) := setL_length l0 k true
    clear h1 h2 h3 h4
    go_wp2_with fail
    go_loop [6] (fun i => ∃ t : Nat, t ≤ k ∧ i = .int .i64 t) (fun i => k - (intOf i).toNat)
    case atStart => exact ⟨0, by omega, rfl⟩
    case round =>
      obtain ⟨t, ht, rfl⟩ := hrel
      by_cases htk : t < k
      · have HI : Hid (tstI l0 t = true) := by rw [tstI_nat]; exact HF.out t htk
        go_wp2_with (go_at_call 35; refine (test_any _ _ _ _ _ w0 m0 (by omega)).mono ?_; rintro e w' ⟨rfl, rfl⟩; rw [HI.out])
        exact ⟨⟨t + 1, by omega, by go_num⟩, by simp [intOf]; omega⟩
      · have htk' : ¬ (t : Int) < (k : Int) := by omega
        clear ht htk HF
        go_wp2_with fail
        refine (set_any a0 cap0 l0 k true w1 w0 hl2 (by omega)).mono ?_
        rintro e w2 ⟨⟨g, rfl, hown⟩, hbel⟩
        have hrow0 := w0.below hbel
        have hrow1 := hown.row HLb.out
        have HB : Hid (Below w1.heap.size w1 w2) := hbel
        have HS := hbel.size
        have hm1 : (setL l0 k true).length ≤ maxLen := by rw [HLn.out]; exact m0
        clear hown hbel
        generalize setL l0 k true = l1 at *
        obtain ⟨C, HC0⟩ : ∃ C, Hid (cntI l0 n = C) := ⟨_, rfl⟩
        rw [HC0.out] at hcb
        have HC1 : Hid (cntI l1 n = C + 1) := by rw [← HC0.out]; exact HCn
        clear HCn
        have eC : (C + 1 == C + 1) = true := by simp
        go_wp2_with fail
        have ht := test_any a0 cap0 l0 k w2 hrow0 m0 (by omega)
        rw [HT0.out] at ht
        refine ht.mono ?_
        clear ht
        rintro e w3 ⟨rfl, rfl⟩
        go_wp2_with fail
        have ht := test_any (some ⟨g, 0, none⟩) l0.length l1 k w3 hrow1 hm1 (by omega)
        rw [tstI_nat, HT1.out, HLn.out] at ht
        refine ht.mono ?_
        clear ht
        rintro e w4 ⟨rfl, rfl⟩
        go_wp2_with fail
        have ht := count_any (some ⟨g, 0, none⟩) l0.length l1 n w4 hrow1 (by rw [HLn.out]; exact hl2) b0 b1
        rw [HC1.out, HLn.out] at ht
        refine ht.mono ?_
        clear ht
        rintro e w5 ⟨rfl, rfl⟩
        go_wp2_with fail
        have ht := count_any a0 cap0 l0 n w5 hrow0 hl2 b0 b1
        rw [HC0.out] at ht
        refine ht.mono ?_
        clear ht
        rintro e w6 ⟨rfl, rfl⟩
        go_wp2_with fail
        refine (awake_any _).mono ?_
        rintro e w7 ⟨rfl, hb7⟩
        have HB7 := HB.out.trans (hb7.mono HS)
        clear hb7
        go_wp2_with fail
        go_ret
        exact ⟨rfl, HB7⟩
  · have HC : Hid (cntI l0 n = ((min n (8 * l0.length) : Nat) : Int)) := by
      show _ = _
      unfold cntI
      rw [Int.toNat_natCast, cnt_full]
      intro k hk
      exact hall k (by omega) (by omega)
    clear hall
    by_cases hmin : n < 8 * l0.length
    · have HC2 : Hid (cntI l0 n = (n : Int)) := by show _ = _; rw [HC.out]; omega
      have hmI : (n : Int) < 8 * (l0.length : Int) := by omega
      have enn : ((n : Int) == (n : Int)) = true := by simp
      clear HC hmin
      go_wp2_with (first
        | (go_at_call 40; refine (count_any _ _ _ _ _ w0 hl2 b0 b1).mono ?_; rintro e w' ⟨rfl, rfl⟩; rw [HC2.out])
        | (go_at_call 14; refine (awake_any _).mono ?_; rintro e w' ⟨rfl, hb⟩))
      go_ret
      exact ⟨rfl, by assumption⟩
    · by_cases heq : n = 8 * l0.length
      · have HC2 : Hid (cntI l0 n = (n : Int)) := by show _ = _; rw [HC.out]; omega
        have hmI : 8 * (l0.length : Int) = (n : Int) := by omega
        have enn : ((n : Int) == (n : Int)) = true := by simp
        clear HC hmin heq
        go_wp2_with (first
          | (go_at_call 40; refine (count_any _ _ _ _ _ w0 hl2 b0 b1).mono ?_; rintro e w' ⟨rfl, rfl⟩; rw [HC2.out])
          | (go_at_call 14; refine (awake_any _).mono ?_; rintro e w' ⟨rfl, hb⟩))
        go_ret
        exact ⟨rfl, by assumption⟩
      · have HC2 : Hid (cntI l0 n = 8 * (l0.length : Int)) := by show _ = _; rw [HC.out]; omega
        have hmI : 8 * (l0.length : Int) < (n : Int) := by omega
        have enn : (8 * (l0.length : Int) == 8 * (l0.length : Int)) = true := by simp
        clear HC hmin heq
        go_wp2_with (first
          | (go_at_call 40; refine (count_any _ _ _ _ _ w0 hl2 b0 b1).mono ?_; rintro e w' ⟨rfl, rfl⟩; rw [HC2.out])
          | (go_at_call 14; refine (awake_any _).mono ?_; rintro e w' ⟨rfl, hb⟩))
        go_ret
        exact ⟨rfl, by assumption⟩
end Go.Proofs.Ytffnhmccoacglaa
