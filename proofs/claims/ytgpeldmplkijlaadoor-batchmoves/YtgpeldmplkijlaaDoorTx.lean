/- The document's own text. -/
import Derived.Test.YtgpeldmplkijlaaDoorDs
import Derived.Test.YtgpeldmplkijlaaDoorRvr
namespace Go.Proofs.YtgpeldmplkijlaaDoor
set_option linter.unusedSimpArgs false
set_option linter.unusedVariables false
open Go.RowKit
def okT (q : List Nat) : Bool := !(numN q == 0) && decide (numV q ≤ 2000) && !(txO q)
theorem runv_from (a : Option Addr) (cap : Nat) (l : List Nat) (i : Nat) (w : World) (hr : Row w a l) (hl : l.length ≤ cap) (hc : cap ≤ maxLen) :
    Calls Tryd.prog 56 #[.slice (cutA a cap i) (l.length - i) (cap - i)] w fun e w' => e = .returned (.tuple #[.int .u64 ((numV (l.drop i) : Nat) : Int), .int .i64 ((numN (l.drop i) : Nat) : Int)]) ∧ w' = w := by
  have := runv_any (cutA a cap i) (cap - i) (l.drop i) w (row_cut cap i hr hl) (by rw [List.length_drop]; omega)
  rw [List.length_drop] at this
  exact this
theorem conv_mid {w : World} {a : Option Addr} {l : List Nat} (cap i n : Nat) (hr : Row w a l) (hl : l.length ≤ cap) (hn : n ≤ l.length - i) (c : Nat) : (convert 27 9 (.slice (cutA a cap i) n c)).run Tryd.prog w = .ok (.string (strN ((l.drop i).take n))) w := by
  have := conv_row c (row_take n (row_cut cap i hr hl))
  rw [show ((l.drop i).take n).length = n by simp; omega] at this
  exact this
set_option maxRecDepth 100000 in
set_option maxHeartbeats 1000000 in
theorem rtext_in (b off cap len i : Nat) (u : World) (hl : len ≤ 6000) (hlc : len ≤ cap) (hcm : cap ≤ 9223372036854775807) (hi : i ≤ len) (V n : Nat) (hV : V ≤ 18446744073709551615) (hn : n ≤ len - i) (s : ByteArray) (z : Bool)
    (HU : Hid (Calls Tryd.prog 56 #[.slice (cutA (some ⟨b, off, none⟩) cap i) (len - i) (cap - i)] u fun e w' => e = .returned (.tuple #[.int .u64 (V : Int), .int .i64 (n : Int)]) ∧ w' = u))
    (HS : Hid (z = true → ∀ c, (convert 27 9 (.slice (cutA (some ⟨b, off, none⟩) cap (i + n)) V c)).run Tryd.prog u = .ok (.string s) u))
    (HZ : Hid (z = (!(n == 0) && decide (V ≤ 2000) && decide (V ≤ len - i - n)))) :
    Calls Tryd.prog 58 #[.slice (some ⟨b, off, none⟩) len cap, .int .i64 (i : Int)] u fun e w' => e = .returned (.tuple #[.string (if z = true then s else ⟨#[]⟩), .int .i64 (if z = true then ((i + n + V : Nat) : Int) else -1)]) ∧ w' = u := by
  have hiI : (i : Int) ≤ (len : Int) := by omega
  have hlI : (len : Int) ≤ 6000 := by omega
  have hlcI : (len : Int) ≤ (cap : Int) := by omega
  have hnI : (n : Int) ≤ (len : Int) - (i : Int) := by omega
  have hicI : (i : Int) ≤ (cap : Int) := by omega
  by_cases hci : cap = i
  · obtain rfl : cap = len := by omega
    subst hci
    have hn0 : n = 0 := by omega
    subst hn0
    have hz : z = false := by rw [HZ.out]; rfl
    subst hz
    clear HS HZ
    simp only [Bool.false_eq_true, if_false]
    have e1 : cutA (some ⟨b, off, none⟩) cap cap = some ⟨b, off, none⟩ := by unfold cutA; rw [if_pos rfl]
    rw [e1, Nat.sub_self] at HU
    go_enter Tryd.func58, Tryd.ntmps58
    go_wp2_with (go_at_call 56; refine Calls.mono HU.out ?_; rintro e w1 ⟨rfl, hw⟩; subst w1)
    go_ret2
    exact ⟨rfl, rfl⟩
  · have e1 : cutA (some ⟨b, off, none⟩) cap i = some ⟨b, off + i, none⟩ := by unfold cutA; rw [if_neg hci, Option.map_some, Addr.add_lit]
    rw [e1] at HU
    clear e1
    cases z
    · have hz := HZ.out
      simp only [Bool.false_eq_true, if_false]
      by_cases hn0 : n = 0
      · subst hn0
        clear HS HZ hz
        go_enter Tryd.func58, Tryd.ntmps58
        go_wp2_with (go_at_call 56; refine Calls.mono HU.out ?_; rintro e w1 ⟨rfl, hw⟩; subst w1)
        go_ret2
        exact ⟨rfl, rfl⟩
      · have hn1 : ((n : Int) == 0) = false := by rw [beq_eq_false_iff_ne]; omega
        have hn2 : (n == 0) = false := by rw [beq_eq_false_iff_ne]; omega
        by_cases hv : V ≤ 2000
        · have hv2 : ¬ (2000 : Int) < (V : Int) := by omega
          have hwV : IntKind.i64.wrap (V : Int) = (V : Int) := by rw [IntKind.wrap_i64]; omega
          have hb : ¬ V ≤ len - i - n := by
            rw [hn2, decide_eq_true hv] at hz
            exact of_decide_eq_false (by simpa using hz.symm)
          have hbI : (len : Int) - (i : Int) - (n : Int) < (V : Int) := by omega
          clear HS HZ hz hn2 hb
          go_enter Tryd.func58, Tryd.ntmps58
          go_wp2_with (go_at_call 56; refine Calls.mono HU.out ?_; rintro e w1 ⟨rfl, hw⟩; subst w1)
          go_ret2
          exact ⟨rfl, rfl⟩
        · have hv2 : (2000 : Int) < (V : Int) := by omega
          clear HS HZ hz hn2
          go_enter Tryd.func58, Tryd.ntmps58
          go_wp2_with (go_at_call 56; refine Calls.mono HU.out ?_; rintro e w1 ⟨rfl, hw⟩; subst w1)
          go_ret2
          exact ⟨rfl, rfl⟩
    · have hz := HZ.out
      have hs := HS.out rfl
      have hz2 : (!(n == 0) && decide (V ≤ 2000) && decide (V ≤ len - i - n)) = true := hz.symm
      simp only [Bool.and_eq_true, Bool.not_eq_true', decide_eq_true_eq, beq_eq_false_iff_ne] at hz2
      obtain ⟨⟨hn0, hv⟩, hb⟩ := hz2
      have hn1 : ((n : Int) == 0) = false := by rw [beq_eq_false_iff_ne]; omega
      have hv2 : ¬ (2000 : Int) < (V : Int) := by omega
      have hwV : IntKind.i64.wrap (V : Int) = (V : Int) := by rw [IntKind.wrap_i64]; omega
      have hbI : (V : Int) ≤ (len : Int) - (i : Int) - (n : Int) := by omega
      have hIc : (i : Int) + (n : Int) + (V : Int) ≤ (cap : Int) := by omega
      have hVI : (V : Int) ≤ 2000 := by omega
      clear HS HZ hz
      by_cases hcn : cap = i + n
      · have hV0 : V = 0 := by omega
        subst hV0
        have e2 : cutA (some ⟨b, off, none⟩) cap (i + n) = some ⟨b, off, none⟩ := by unfold cutA; rw [if_pos hcn]
        rw [e2] at hs
        obtain rfl : len = i + n := by omega
        subst hcn
        rw [Nat.add_sub_cancel_left] at HU
        clear e2
        go_enter Tryd.func58, Tryd.ntmps58
        go_wp2_with (go_at_call 56; refine Calls.mono HU.out ?_; rintro e w1 ⟨rfl, hw⟩; subst w1)
        go_ret2
        exact ⟨rfl, rfl⟩
      · have e2 : cutA (some ⟨b, off, none⟩) cap (i + n) = some ⟨b, off + (i + n), none⟩ := by unfold cutA; rw [if_neg hcn, Option.map_some, Addr.add_lit]
        rw [e2] at hs
        go_enter Tryd.func58, Tryd.ntmps58
        go_wp2_with (go_at_call 56; refine Calls.mono HU.out ?_; rintro e w1 ⟨rfl, hw⟩; subst w1)
        go_ret2
        exact ⟨rfl, rfl⟩
theorem rtext_any (b off cap : Nat) (l : List Nat) (i : Nat) (u : World) (hr : Row u (some ⟨b, off, none⟩) l) (hl : l.length ≤ 6000) (hlc : l.length ≤ cap) (hcm : cap ≤ maxLen) (hi : i ≤ l.length) :
    Calls Tryd.prog 58 #[.slice (some ⟨b, off, none⟩) l.length cap, .int .i64 (i : Int)] u fun e w' => e = .returned (.tuple #[.string (if okT (l.drop i) = true then strN (((l.drop i).drop (numN (l.drop i))).take (numV (l.drop i))) else ⟨#[]⟩), .int .i64 (if okT (l.drop i) = true then ((i + numN (l.drop i) + numV (l.drop i) : Nat) : Int) else -1)]) ∧ w' = u := by
  have hn := numN_le (l.drop i)
  rw [List.length_drop] at hn
  refine rtext_in b off cap l.length i u hl hlc (by unfold maxLen at hcm; exact hcm) hi (numV (l.drop i)) (numN (l.drop i)) (numV_le _) hn _ (okT (l.drop i)) (runv_from _ cap l i u hr hlc hcm) ?_ ?_
  · intro hz c
    have h2 : numV (l.drop i) ≤ l.length - (i + numN (l.drop i)) := by
      simp only [okT, txO, Bool.and_eq_true, Bool.not_eq_true', decide_eq_false_iff_not, List.length_drop] at hz
      omega
    have := conv_mid cap (i + numN (l.drop i)) (numV (l.drop i)) hr hlc h2 c
    rw [← List.drop_drop] at this
    exact this
  · show _ = _
    unfold okT txO
    congr 1
    rw [Bool.eq_iff_iff]
    simp only [Bool.not_eq_true', decide_eq_false_iff_not, decide_eq_true_eq, List.length_drop]
    omega
end Go.Proofs.YtgpeldmplkijlaaDoor
