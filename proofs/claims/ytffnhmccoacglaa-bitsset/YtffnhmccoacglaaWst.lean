/- The walk of BitsSet: true for every argument, and nothing that was there is turned. -/
import Derived.Test.YtffnhmccoacglaaSet
namespace Go.Proofs.Ytffnhmccoacglaa
set_option linter.unusedSimpArgs false
set_option linter.unusedVariables false
open Go.RowKit
set_option maxRecDepth 100000 in
theorem bitsSet_walk (a0 : Option Addr) (cap0 : Nat) (l0 : List Nat) (a1 : Int) (a2 : Bool) (w : World) (w0 : Row w a0 l0) (m0 : l0.length ≤ maxLen) (w1 : (Lit.int .i64 a1).wf = true) :
    Calls Try.prog 13 #[.slice a0 l0.length cap0, .int .i64 a1, .bool a2] w fun e w' => e = .returned (.bool true) ∧ Below w.heap.size w w' := by
  obtain ⟨b0, b1⟩ := bd64 w1
  clear w1
  by_cases hl : 100 < (l0.length : Int)
  · go_enter Try.func13, Try.ntmps13
    go_wp2_with (go_at_call 14; refine (awake_any _).mono ?_; rintro e w' ⟨rfl, hb⟩)
    go_ret
    exact ⟨rfl, by assumption⟩
  · have hl2 : l0.length ≤ 2000 := by omega
    have hl3 : l0.length ≤ 100 := by omega
    have hne : ((l0.length : Int) != (l0.length : Int)) = false := by simp
    go_enter Try.func13, Try.ntmps13
    go_wp2_with fail
    refine (set_any a0 cap0 l0 a1 a2 w w0 hl2 b1).mono ?_
    rintro e w1 ⟨⟨g, rfl, hown⟩, hbel⟩
    have hrow0 := w0.below hbel
    have hrow1 := hown.row (setL_lt l0 a1 a2 w0.lt)
    have HT : Hid (∀ i, i < 8 * l0.length → tst (setL l0 a1 a2) i = if (i : Int) = a1 then a2 else tst l0 i) := fun i hi => tst_setL l0 a1 a2 i w0.lt hi
    have hm1 : (setL l0 a1 a2).length ≤ maxLen := by rw [setL_length]; exact m0
    have HLn : Hid ((setL l0 a1 a2).length = l0.length) := setL_length l0 a1 a2
    generalize setL l0 a1 a2 = l1 at *
    have HB : Hid (Below w.heap.size w w1) := hbel
    clear hown hbel w0
    go_wp2_with fail
    go_loop [8] (fun i => ∃ t : Nat, t ≤ 8 * l0.length ∧ i = .int .i64 t) (fun i => 8 * l0.length - (intOf i).toNat)
    case atStart => exact ⟨0, by omega, rfl⟩
    case round =>
      obtain ⟨t, ht, rfl⟩ := hrel
      by_cases hlt : t < 8 * l0.length
      · have htst := HT.out t hlt
        have hltI : (t : Int) < 8 * (l0.length : Int) := by omega
        have e0 := tstI_nat l0 t
        have e1 := tstI_nat l1 t
        rw [htst] at e1
        clear htst
        generalize tst l0 t = x at *
        by_cases hk : (t : Int) = a1
        · rw [if_pos hk] at e1
          have hkb : ((t : Int) == a1) = true := by simpa using hk
          have hne2 : (a2 != a2) = false := by simp
          have E0 : Hid (tstI l0 t = x) := e0
          have E1 : Hid (tstI l1 t = a2) := e1
          clear e0 e1 hk
          go_wp2_with fail
          refine (test_any a0 cap0 l0 t w1 hrow0 m0 (by omega)).mono ?_
          rintro e w2 ⟨rfl, rfl⟩
          rw [E0.out]
          go_wp2_with fail
          have ht2 := test_any (some ⟨g, 0, none⟩) l0.length l1 t w2 hrow1 hm1 (by omega)
          rw [HLn.out] at ht2
          refine ht2.mono ?_
          rintro e w3 ⟨rfl, rfl⟩
          rw [E1.out]
          clear ht2
          go_wp2_with fail
          exact ⟨⟨t + 1, by omega, by go_num⟩, by simp [intOf]; omega⟩
        · rw [if_neg hk] at e1
          have hkb : ((t : Int) == a1) = false := by simpa using hk
          have hne2 : (x != x) = false := by simp
          have E0 : Hid (tstI l0 t = x) := e0
          have E1 : Hid (tstI l1 t = x) := e1
          clear e0 e1 hk
          go_wp2_with fail
          refine (test_any a0 cap0 l0 t w1 hrow0 m0 (by omega)).mono ?_
          rintro e w2 ⟨rfl, rfl⟩
          rw [E0.out]
          go_wp2_with fail
          have ht2 := test_any (some ⟨g, 0, none⟩) l0.length l1 t w2 hrow1 hm1 (by omega)
          rw [HLn.out] at ht2
          refine ht2.mono ?_
          rintro e w3 ⟨rfl, rfl⟩
          rw [E1.out]
          clear ht2
          go_wp2_with fail
          exact ⟨⟨t + 1, by omega, by go_num⟩, by simp [intOf]; omega⟩
      · go_wp2_with (go_at_call 14; refine (awake_any _).mono ?_; rintro e w' ⟨rfl, hb⟩)
        go_ret
        exact ⟨rfl, HB.out.trans (Below.mono (by assumption) HB.out.size)⟩
end Go.Proofs.Ytffnhmccoacglaa
