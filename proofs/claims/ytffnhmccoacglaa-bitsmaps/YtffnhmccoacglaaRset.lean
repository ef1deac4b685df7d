/- The document's own Set and Put: the bytes that those of bits lay, in new memory. -/
import Derived.Test.YtffnhmccoacglaaLnt
namespace Go.Proofs.Ytffnhmccoacglaa
set_option linter.unusedSimpArgs false
set_option linter.unusedVariables false
open Go.RowKit
set_option maxRecDepth 100000 in
set_option maxHeartbeats 800000 in
theorem rset_any (a : Option Addr) (cap : Nat) (l : List Nat) (k : Int) (on : Bool) (w : World) (hr : Row w a l) (hl : l.length ≤ 2000) (hn : a = none → cap = 0) (hk0 : -9223372036854775808 ≤ k) (hk : k ≤ 9223372036854775807) :
    Calls Try.prog 37 #[.slice a l.length cap, .int .i64 k, .bool on] w fun e w' => (∃ v, e = .returned v ∧ w'.ownsRow w.heap.size 5 1 v (setL l k on).length (cv (setL l k on))) ∧ Below w.heap.size w w' := by
  obtain ⟨i0, hi, hz0, hz1, hz2⟩ := info_parts Try.info5
  have hnil := World.ownsRow_nil w w.heap.size 5 1
  cases a with
  | none =>
    obtain rfl := row_none hr
    obtain rfl := hn rfl
    have HS : Hid (setL [] k on = []) := by show _ = _; simp [setL, hasB]
    clear hn
    rw [HS.out]
    by_cases h0 : k < 0
    · go_enter Try.func37, Try.ntmps37
      go_wp2_with (at_builtin; refine wpList_append_own_none rfl _ _ 22 rfl w.heap.size 5 i0 1 Try.underlying22 hi _ _ _ rfl hnil rfl ?_)
      go_ret
      exact ⟨⟨_, rfl, hnil⟩, Below.refl _ _⟩
    · have h8 : 0 ≤ k / 8 := by omega
      go_enter Try.func37, Try.ntmps37
      go_wp2_with (at_builtin; refine wpList_append_own_none rfl _ _ 22 rfl w.heap.size 5 i0 1 Try.underlying22 hi _ _ _ rfl hnil rfl ?_)
      go_ret
      exact ⟨⟨_, rfl, hnil⟩, Below.refl _ _⟩
  | some ad =>
    have hln : (cv l).length = l.length * 1 := by rw [cv_length]; omega
    have hnw := row_news hr
    have x1 : 0 + l.length ≤ maxLen := by unfold maxLen; omega
    have x2 : (0 + l.length) * 1 ≤ 140737488355328 := by omega
    by_cases hh : hasB l.length k = true
    · have hh' : 0 ≤ k ∧ k / 8 < l.length := by simpa [hasB] using hh
      obtain ⟨m, rfl⟩ := Int.eq_ofNat_of_zero_le hh'.1
      have hj8 : m % 8 < 8 := by omega
      have hlt8 : (m : Int) / 8 < (l.length : Int) := hh'.2
      have hc256 := hr.lt (m / 8)
      have HS : Hid (setL l m on = l.set (m / 8) (sb (l.getD (m / 8) 0) (m % 8) on)) := by show _ = _; simp only [setL, hh, if_true, Int.toNat_natCast]
      have hp := p2u8 (m % 8) hj8
      have hpI : (2 : Int) ^ (m % 8) ≤ 128 := by have e : ((2 : Int) ^ (m % 8)) = ((2 ^ (m % 8) : Nat) : Int) := by simp
                                                 omega
      have hp0 := p2pos (m % 8)
      have hpos : 0 < l.length := by omega
      obtain ⟨c, hc⟩ : ∃ c, l.getD (m / 8) 0 = c := ⟨_, rfl⟩
      rw [hc] at HS hc256
      have Hc : Hid (l.getD (m / 8) 0 = c) := hc
      have HB := not_bit c (m % 8) hc256 hj8
      have HB2 := or_bit c (m % 8) hc256 hj8
      have hm8 : m / 8 < l.length := by omega
      clear hh' hh hc
      cases on
      · clear HB2
        go_enter Try.func37, Try.ntmps37
        go_wp2_with (at_builtin; refine wpList_append_own w rfl (.tmp 9) (.tmp 10) 22 rfl w.heap.size 5 i0 (.int .u8 0) 1 1 Try.underlying22 hi hz0 hz1 hz2 rfl (by decide) (.slice none 0 0) 0 [] rfl hnil ad l.length cap (cv l) rfl hln hnw (cv_one _) x1 x2 (Nat.le_refl _) ?_; intro v1 w1 hown1 hg1 hz; have hb1 : Below w.heap.size w w1 := own_bel hnil (Below.refl w.heap.size w) (Nat.le_refl _) hg1; rw [Nat.zero_add, List.nil_append] at hown1; obtain ⟨g, cap', rfl, hown⟩ := owns_some hown1 hpos; have hcell := hown.cell (m / 8) hm8; rw [Hc.out] at hcell; have hfree := hown.free (m / 8); have hge := hown.ge.1; clear hnil hz hg1 hown1 hnw hln)
        go_ret
        refine ⟨⟨_, rfl, ?_⟩, hb1.setCell hge _⟩
        rw [HS.out]
        have := hown.store (m / 8) (sb c (m % 8) false)
        unfold Own at this
        rw [List.length_set] at this ⊢
        exact this
      · clear HB
        go_enter Try.func37, Try.ntmps37
        go_wp2_with (at_builtin; refine wpList_append_own w rfl (.tmp 9) (.tmp 10) 22 rfl w.heap.size 5 i0 (.int .u8 0) 1 1 Try.underlying22 hi hz0 hz1 hz2 rfl (by decide) (.slice none 0 0) 0 [] rfl hnil ad l.length cap (cv l) rfl hln hnw (cv_one _) x1 x2 (Nat.le_refl _) ?_; intro v1 w1 hown1 hg1 hz; have hb1 : Below w.heap.size w w1 := own_bel hnil (Below.refl w.heap.size w) (Nat.le_refl _) hg1; rw [Nat.zero_add, List.nil_append] at hown1; obtain ⟨g, cap', rfl, hown⟩ := owns_some hown1 hpos; have hcell := hown.cell (m / 8) hm8; rw [Hc.out] at hcell; have hfree := hown.free (m / 8); have hge := hown.ge.1; clear hnil hz hg1 hown1 hnw hln)
        go_ret
        refine ⟨⟨_, rfl, ?_⟩, hb1.setCell hge _⟩
        rw [HS.out]
        have := hown.store (m / 8) (sb c (m % 8) true)
        unfold Own at this
        rw [List.length_set] at this ⊢
        exact this
    · have hh' : ¬ (0 ≤ k ∧ k / 8 < l.length) := by simpa [hasB] using hh
      have hh2 : hasB l.length k = false := by simpa using hh
      have HS : Hid (setL l k on = l) := by show _ = _; simp [setL, hh2]
      rw [HS.out]
      clear hh hh2
      by_cases h0 : k < 0
      · clear hh'
        go_enter Try.func37, Try.ntmps37
        go_wp2_with (at_builtin; refine wpList_append_own w rfl (.tmp 9) (.tmp 10) 22 rfl w.heap.size 5 i0 (.int .u8 0) 1 1 Try.underlying22 hi hz0 hz1 hz2 rfl (by decide) (.slice none 0 0) 0 [] rfl hnil ad l.length cap (cv l) rfl hln hnw (cv_one _) x1 x2 (Nat.le_refl _) ?_; intro v1 w1 hown1 hg1 hz; have hb1 : Below w.heap.size w w1 := own_bel hnil (Below.refl w.heap.size w) (Nat.le_refl _) hg1; rw [Nat.zero_add, List.nil_append] at hown1; clear hnil hz hg1 hnw hln)
        go_ret
        exact ⟨⟨_, rfl, hown1⟩, hb1⟩
      · have h8 : (l.length : Int) ≤ k / 8 := by omega
        clear hh'
        go_enter Try.func37, Try.ntmps37
        go_wp2_with (at_builtin; refine wpList_append_own w rfl (.tmp 9) (.tmp 10) 22 rfl w.heap.size 5 i0 (.int .u8 0) 1 1 Try.underlying22 hi hz0 hz1 hz2 rfl (by decide) (.slice none 0 0) 0 [] rfl hnil ad l.length cap (cv l) rfl hln hnw (cv_one _) x1 x2 (Nat.le_refl _) ?_; intro v1 w1 hown1 hg1 hz; have hb1 : Below w.heap.size w w1 := own_bel hnil (Below.refl w.heap.size w) (Nat.le_refl _) hg1; rw [Nat.zero_add, List.nil_append] at hown1; clear hnil hz hg1 hnw hln)
        go_ret
        exact ⟨⟨_, rfl, hown1⟩, hb1⟩
/-- Behind k rounds of the document's Put. -/
structure RputAt (l : List Nat) (p size : Nat) (big : Bool) (V k : Nat) (cur : List Nat) : Prop where
  len : cur.length = l.length
  at' : ∀ i, i < l.length → cur.getD i 0 = if p ≤ i ∧ i < p + k then V / 256 ^ plc size big (i - p) % 256 else l.getD i 0
theorem RputAt.step {l : List Nat} {p size : Nat} {big : Bool} {V k : Nat} {cur : List Nat} (h : RputAt l p size big V k cur) (hk : k < size) (hp : p + size ≤ l.length) :
    RputAt l p size big V (k + 1) (cur.set (p + k) (V / 256 ^ plc size big k % 256)) := by
  refine ⟨by simp [h.len], fun i hi => ?_⟩
  rw [getD_set _ _ _ _ (by rw [h.len]; exact hi), h.at' i hi]
  by_cases e : p + k = i
  · subst e
    rw [if_pos rfl, Nat.add_sub_cancel_left, if_pos (by omega)]
  · rw [if_neg e]
    by_cases hin : p ≤ i ∧ i < p + k
    · rw [if_pos hin, if_pos (by omega)]
    · rw [if_neg hin, if_neg (by omega)]
theorem RputAt.done {l : List Nat} {p size : Nat} {big : Bool} {V : Nat} {cur : List Nat} (h : RputAt l p size big V size cur) : cur = putL l p size big V := by
  apply list_ext (by rw [h.len, putL_length])
  intro i hi
  rw [h.len] at hi
  rw [h.at' i hi, putL_get _ _ _ _ _ _ hi]
set_option maxRecDepth 100000 in
set_option maxHeartbeats 800000 in
theorem rput_yes (a : Option Addr) (cap : Nat) (l : List Nat) (p size : Nat) (big : Bool) (V : Nat) (w : World) (hr : Row w a l) (hl : l.length ≤ 2000) (h1 : 1 ≤ size) (h2 : size ≤ 8) (h3 : p + size ≤ l.length) (hV : V ≤ 18446744073709551615) :
    Calls Try.prog 19 #[.slice a l.length cap, .int .i64 p, .int .i64 size, .bool big, .int .u64 V] w fun e w' =>
      (∃ g cap', e = .returned (.tuple #[.slice (some ⟨g, 0, none⟩) l.length cap', .bool true]) ∧ Own w.heap.size w' g cap' (putL l p size big V)) ∧ Below w.heap.size w w' := by
  obtain ⟨i0, hi, hz0, hz1, hz2⟩ := info_parts Try.info5
  have hnil := World.ownsRow_nil w w.heap.size 5 1
  obtain ⟨ad, rfl⟩ : ∃ ad, a = some ad := by obtain ⟨b, off, e, _⟩ := hr 0 (by omega); exact ⟨_, e⟩
  have hln : (cv l).length = l.length * 1 := by rw [cv_length]; omega
  have hnw := row_news hr
  have x1 : 0 + l.length ≤ maxLen := by unfold maxLen; omega
  have x2 : (0 + l.length) * 1 ≤ 140737488355328 := by omega
  have hpos : 0 < l.length := by omega
  go_enter Try.func19, Try.ntmps19
  go_wp2_with (first
    | (go_at_call 17; refine (rget_yes _ _ _ _ _ _ _ hr hl h1 h2 h3).mono ?_; rintro e w' ⟨rfl, rfl⟩)
    | (at_builtin; refine wpList_append_own _ rfl (.tmp 27) (.tmp 28) 22 rfl _ 5 i0 (.int .u8 0) 1 1 Try.underlying22 hi hz0 hz1 hz2 rfl (by decide) (.slice none 0 0) 0 [] rfl hnil ad l.length cap (cv l) rfl hln hnw (cv_one _) x1 x2 (Nat.le_refl _) ?_; intro v1 w1 hown1 hg1 hz; have hb1 := own_bel hnil (Below.refl _ _) (Nat.le_refl _) hg1; rw [Nat.zero_add, List.nil_append] at hown1; obtain ⟨g, cap', rfl, hown⟩ := owns_some hown1 hpos; clear hnil hz hg1 hown1 hnw hln))
  go_loopw [15] (fun i wr => ∃ (k : Nat) (cur : List Nat), k ≤ size ∧ i = .int .i64 k ∧ RputAt l p size big V k cur ∧ Own _ wr g cap' cur ∧ Below _ _ wr) (fun i _ => size - (intOf i).toNat)
  case atStart => exact ⟨0, l, by omega, rfl, ⟨rfl, fun i hi => by rw [if_neg (by omega)]⟩, hown, hb1⟩
  case round =>
    obtain ⟨k, cur, hk, rfl, hat, hown, hbel⟩ := hrel
    clear hr
    by_cases hlt : k < size
    · have HN : Hid (RputAt l p size big V (k + 1) (cur.set (p + k) (V / 256 ^ plc size big k % 256))) := hat.step hlt h3
      have hcell := hown.cell (p + k) (by rw [hat.len]; omega)
      have hfree := hown.free (p + k)
      have hge := hown.ge
      have hby := byte_at V (plc size big k)
      have hltq : ((p : Int) + k) < (l.length : Int) := by omega
      generalize V / 256 ^ plc size big k % 256 = d at *
      generalize cur.getD (p + k) 0 = c0 at *
      clear hat
      cases big
      · have hby2 : (V : Int) / 2 ^ (8 * k) % 256 = (d : Int) := hby
        clear hby
        go_wp2
        exact ⟨⟨k + 1, cur.set (p + k) d, by omega, by go_num, HN.out, hown.store _ _, hbel.setCell hge.1 _⟩, by simp [intOf]; omega⟩
      · obtain ⟨q, hq⟩ := Int.eq_ofNat_of_zero_le (show 0 ≤ (size : Int) - 1 - (k : Int) by omega)
        have hby2 : (V : Int) / 2 ^ (8 * q) % 256 = (d : Int) := by
          rw [← hby]
          have : plc size true k = q := by simp only [plc, if_true]; omega
          rw [this]
        have hq8 : q < 8 := by omega
        clear hby
        go_wp2
        exact ⟨⟨k + 1, cur.set (p + k) d, by omega, by go_num, HN.out, hown.store _ _, hbel.setCell hge.1 _⟩, by simp [intOf]; omega⟩
    · obtain rfl : k = size := by omega
      have HD : Hid (cur = putL l p k big V) := hat.done
      have HLn : Hid (cur.length = l.length) := hat.len
      clear hat
      go_wp2
      go_ret2
      exact ⟨⟨g, _, rfl, by rw [← HD.out]; exact hown⟩, hbel⟩
theorem rput_no (a : Option Addr) (cap : Nat) (l : List Nat) (p size : Int) (big : Bool) (V : Int) (w : World) (hr : Row w a l) (hl : l.length ≤ 2000) (hp : -9223372036854775808 ≤ p) (hp1 : p ≤ 9223372036854775807) (hf : fitsB l.length p size = false) :
    Calls Try.prog 19 #[.slice a l.length cap, .int .i64 p, .int .i64 size, .bool big, .int .u64 V] w fun e w' => e = .returned (.tuple #[.slice none 0 0, .bool false]) ∧ w' = w := by
  go_enter Try.func19, Try.ntmps19
  go_wp2_with (go_at_call 17; refine (rget_any _ _ _ _ _ _ _ hr hl hp hp1).mono ?_; rintro e w' ⟨rfl, rfl⟩; rw [hf])
  go_ret2
  exact ⟨rfl, rfl⟩
theorem rput_any (a : Option Addr) (cap : Nat) (l : List Nat) (p size : Int) (big : Bool) (V : Nat) (w : World) (hr : Row w a l) (hl : l.length ≤ 2000) (hV : V ≤ 18446744073709551615) (hp : -9223372036854775808 ≤ p) (hp1 : p ≤ 9223372036854775807) :
    Calls Try.prog 19 #[.slice a l.length cap, .int .i64 p, .int .i64 size, .bool big, .int .u64 V] w fun e w' =>
      (∃ a' cap', e = .returned (.tuple #[.slice a' (putI l p size big V).length cap', .bool (fitsB l.length p size)]) ∧ Row w' a' (putI l p size big V)) ∧ Below w.heap.size w w' := by
  by_cases hf : fitsB l.length p size = true
  · have hf' : 1 ≤ size ∧ size ≤ 8 ∧ 0 ≤ p ∧ p ≤ l.length - size := by simpa [fitsB] using hf
    obtain ⟨n, rfl⟩ := Int.eq_ofNat_of_zero_le hf'.2.2.1
    obtain ⟨m, rfl⟩ := Int.eq_ofNat_of_zero_le (show 0 ≤ size by omega)
    refine (rput_yes a cap l n m big V w hr hl (by omega) (by omega) (by omega) hV).mono fun e w' h => ?_
    obtain ⟨⟨g, cap', rfl, hown⟩, hb⟩ := h
    have e1 : putI l n m big V = putL l n m big V := by simp [putI, hf]
    refine ⟨⟨some ⟨g, 0, none⟩, cap', ?_, ?_⟩, hb⟩
    · rw [e1, putL_length, hf]
    · rw [e1]; exact hown.row (putL_lt l n m big V hr.lt)
  · have hf2 : fitsB l.length p size = false := by simpa using hf
    refine (rput_no a cap l p size big V w hr hl hp hp1 hf2).mono fun e w' h => ?_
    obtain ⟨rfl, rfl⟩ := h
    have e1 : putI l p size big V = [] := by simp [putI, hf2]
    refine ⟨⟨none, 0, ?_, ?_⟩, Below.refl _ _⟩
    · rw [e1, hf2]; rfl
    · rw [e1]; exact Row.nil _ _
end Go.Proofs.Ytffnhmccoacglaa
