/- The document's own Test, First and Count return as those of bits. -/
import Derived.Test.YtffnhmccoacglaaCnt
namespace Go.Proofs.Ytffnhmccoacglaa
set_option linter.unusedSimpArgs false
set_option linter.unusedVariables false
open Go.RowKit
theorem tstI_out (l : List Nat) (k : Int) (h : ¬ (0 ≤ k ∧ k / 8 < l.length)) : tstI l k = false := by
  simp only [tstI, tst]
  split
  · rfl
  · rw [getD_out _ _ (by omega)]; simp
theorem rtest_any (a : Option Addr) (cap : Nat) (l : List Nat) (k : Int) (w : World) (hr : Row w a l) (hl : l.length ≤ 2000) (h0 : -9223372036854775808 ≤ k) (h1 : k ≤ 9223372036854775807) :
    Calls Try.prog 36 #[.slice a l.length cap, .int .i64 k] w fun e w' => e = .returned (.bool (tstI l k)) ∧ w' = w := by
  by_cases hh : 0 ≤ k
  · obtain ⟨m, rfl⟩ := Int.eq_ofNat_of_zero_le hh
    by_cases hh2 : (m : Int) / 8 < l.length
    · obtain ⟨b, off, rfl, hc, hlt⟩ := hr (m / 8) (by omega)
      have HT : Hid (tstI l m = (l.getD (m / 8) 0 / 2 ^ (m % 8) % 2 == 1)) := by show _ = _; simp [tstI, tst]
      clear hr
      generalize l.getD (m / 8) 0 = c at *
      have h1' := u8_and1 (c / 2 ^ (m % 8)) (div_lt256 _ _ hlt)
      have hq : ((c / 2 ^ (m % 8) : Nat) : Int) = (c : Int) / 2 ^ (m % 8) := by simp
      rw [hq] at h1'
      clear hq
      go_enter Try.func36, Try.ntmps36
      go_wp2
      go_ret
      refine ⟨retB ?_, rfl⟩
      rw [HT.out]
      rw [show (c : Int) / 2 ^ (m % 8) % 2 = ((c / 2 ^ (m % 8) % 2 : Nat) : Int) by simp, Bool.eq_iff_iff]
      simp only [beq_iff_eq]
      omega
    · have HT : Hid (tstI l m = false) := tstI_out l m (by omega)
      go_enter Try.func36, Try.ntmps36
      go_wp2
      go_ret
      exact ⟨retB (by rw [HT.out]), rfl⟩
  · have HT : Hid (tstI l k = false) := tstI_out l k (by omega)
    go_enter Try.func36, Try.ntmps36
    go_wp2
    go_ret
    exact ⟨retB (by rw [HT.out]), rfl⟩
set_option maxRecDepth 100000 in
theorem rfirst_any (a : Option Addr) (cap : Nat) (l : List Nat) (n : Int) (w : World) (hr : Row w a l) (hl : l.length ≤ 2000) :
    Calls Try.prog 39 #[.slice a l.length cap, .int .i64 n] w fun e w' => (∃ r, e = .returned (.int .i64 r) ∧ FirstIs l n r) ∧ w' = w := by
  go_enter Try.func39, Try.ntmps39
  go_wp2
  go_loop [5] (fun i => ∃ t : Nat, t ≤ 8 * l.length ∧ i = .int .i64 t ∧ Full l t) (fun i => 8 * l.length - (intOf i).toNat)
  case atStart => exact ⟨0, by omega, rfl, ⟨by intro j hj; omega⟩⟩
  case round =>
    obtain ⟨t, ht, rfl, hft⟩ := hrel
    by_cases h1 : (t : Int) < n
    · by_cases h2 : (t : Int) / 8 < (l.length : Int)
      · have e0 := tstI_nat l t
        by_cases hb : tst l t = true
        · have HF : Hid (Full l (t + 1)) := ⟨by
            intro j hj
            by_cases h : j = t
            · subst h; exact hb
            · exact hft.all j (by omega)⟩
          have HI : Hid (tstI l t = true) := by rw [e0]; exact hb
          clear e0 hb hft
          go_wp2_with (go_at_call 36; refine (rtest_any _ _ _ _ _ hr hl (by omega) (by omega)).mono ?_; rintro e w' ⟨rfl, rfl⟩; rw [HI.out])
          exact ⟨⟨t + 1, by omega, by go_num, HF.out⟩, by simp [intOf]; omega⟩
        · have hb2 : tst l t = false := by simpa using hb
          have HI : Hid (tstI l t = false) := by rw [e0]; exact hb2
          have HG : Hid (FirstIs l n t) := .inl ⟨t, rfl, h1, by omega, hb2, hft.all⟩
          clear e0 hb hb2 hft
          go_wp2_with (go_at_call 36; refine (rtest_any _ _ _ _ _ hr hl (by omega) (by omega)).mono ?_; rintro e w' ⟨rfl, rfl⟩; rw [HI.out])
          go_ret
          exact ⟨⟨_, rfl, HG.out⟩, rfl⟩
      · have HG : Hid (FirstIs l n (-1)) := .inr ⟨rfl, fun j _ hj => hft.all j (by omega)⟩
        clear hft
        go_wp2
        go_ret
        exact ⟨⟨_, rfl, HG.out⟩, rfl⟩
    · have HG : Hid (FirstIs l n (-1)) := .inr ⟨rfl, fun j hj _ => hft.all j (by omega)⟩
      clear hft
      go_wp2
      go_ret
      exact ⟨⟨_, rfl, HG.out⟩, rfl⟩
structure RcAt (l : List Nat) (n : Int) (t o : Nat) : Prop where
  num : o = cnt l t
  low : t = 0 ∨ (t : Int) ≤ n
set_option maxRecDepth 100000 in
theorem rcount_any (a : Option Addr) (cap : Nat) (l : List Nat) (n : Int) (w : World) (hr : Row w a l) (hl : l.length ≤ 2000) :
    Calls Try.prog 41 #[.slice a l.length cap, .int .i64 n] w fun e w' => e = .returned (.int .i64 (cntI l n)) ∧ w' = w := by
  go_enter Try.func41, Try.ntmps41
  go_wp2
  go_loop [5, 6] (fun s i => ∃ t o : Nat, t ≤ 8 * l.length ∧ o ≤ t ∧ i = .int .i64 t ∧ s = .int .i64 o ∧ RcAt l n t o) (fun _ i => 8 * l.length - (intOf i).toNat)
  case atStart => exact ⟨0, 0, by omega, by omega, rfl, rfl, rfl, .inl rfl⟩
  case round =>
    obtain ⟨t, o, ht, ho, rfl, rfl, hat⟩ := hrel
    have HQ : Hid (¬ ((t : Int) < n ∧ (t : Int) / 8 < (l.length : Int)) → cntI l n = (o : Int)) := by
      intro h
      have := hat.low
      unfold cntI
      rw [hat.num, show min n.toNat (8 * l.length) = t by omega]
    by_cases h1 : (t : Int) < n
    · by_cases h2 : (t : Int) / 8 < (l.length : Int)
      · have e0 := tstI_nat l t
        by_cases hb : tst l t = true
        · have HF : Hid (RcAt l n (t + 1) (o + 1)) := ⟨by rw [cnt, hb, ← hat.num]; rfl, .inr (by omega)⟩
          have HI : Hid (tstI l t = true) := by rw [e0]; exact hb
          clear e0 hb hat HQ
          go_wp2_with (go_at_call 36; refine (rtest_any _ _ _ _ _ hr hl (by omega) (by omega)).mono ?_; rintro e w' ⟨rfl, rfl⟩; rw [HI.out])
          exact ⟨⟨t + 1, o + 1, by omega, by omega, by go_num, by go_num, HF.out⟩, by simp [intOf]; omega⟩
        · have hb2 : tst l t = false := by simpa using hb
          have HF : Hid (RcAt l n (t + 1) o) := ⟨by rw [cnt, hb2, ← hat.num]; rfl, .inr (by omega)⟩
          have HI : Hid (tstI l t = false) := by rw [e0]; exact hb2
          clear e0 hb hb2 hat HQ
          go_wp2_with (go_at_call 36; refine (rtest_any _ _ _ _ _ hr hl (by omega) (by omega)).mono ?_; rintro e w' ⟨rfl, rfl⟩; rw [HI.out])
          exact ⟨⟨t + 1, o, by omega, by omega, by go_num, by go_num, HF.out⟩, by simp [intOf]; omega⟩
      · have HG : Hid (cntI l n = (o : Int)) := HQ.out (by omega)
        clear hat HQ
        go_wp2
        go_ret
        exact ⟨by rw [HG.out]; rfl, rfl⟩
    · have HG : Hid (cntI l n = (o : Int)) := HQ.out (by omega)
      clear hat HQ
      go_wp2
      go_ret
      exact ⟨by rw [HG.out]; rfl, rfl⟩
end Go.Proofs.Ytffnhmccoacglaa
