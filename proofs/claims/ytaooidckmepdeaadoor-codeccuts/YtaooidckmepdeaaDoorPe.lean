/- What is written is read, whatever stands behind; by another first time its time is moved; what is cut off is none; the document's own way to read comes to the same. -/
import Derived.Test.YtaooidckmepdeaaDoorPd
namespace Go.Proofs.YtaooidckmepdeaaDoor
set_option linter.unusedSimpArgs false
set_option linter.unusedVariables false
open Go.RowKit
theorem uv_vr (f i V v : Nat) (t : List Nat) (hi : i + f = 9) (hV : V < 2 ^ (64 - 7 * i)) (h0 : 0 < i → V ≠ 0) : uv (vr f V ++ t) i v = (v + V * 128 ^ i, i + (vr f V).length) := by
  induction f generalizing i V v with
  | zero =>
    have e9 : i = 9 := by omega
    subst e9
    have hV2 : V < 2 := by simpa using hV
    have := h0 (by omega)
    obtain rfl : V = 1 := by omega
    simp [vr, uv_cons]
  | succ f ih =>
    simp only [vr]
    split
    · rename_i h128
      simp only [List.cons_append, List.nil_append, uv_cons]
      rw [if_neg (by omega), if_neg (by omega), if_neg (by rintro ⟨a, b⟩; exact h0 b a), Nat.mod_eq_of_lt h128]
      simp
    · rename_i h128
      have hV2 : V / 128 < 2 ^ (64 - 7 * (i + 1)) := by
        have e : 64 - 7 * i = (64 - 7 * (i + 1)) + 7 := by omega
        rw [e, Nat.pow_add] at hV
        omega
      simp only [List.cons_append, uv_cons]
      rw [if_neg (by omega), if_pos (by omega), ih (i + 1) (V / 128) _ (by omega) hV2 (by intro _; omega)]
      have e1 : (V % 128 + 128) % 128 = V % 128 := by omega
      rw [e1]
      have e2 : V * 128 ^ i = V % 128 * 128 ^ i + V / 128 * 128 ^ (i + 1) := by
        rw [Nat.pow_succ, ← Nat.mul_assoc, Nat.mul_right_comm (V / 128), ← Nat.add_mul]
        congr 1
        omega
      simp only [List.length_cons, Prod.mk.injEq]
      omega
theorem uv_groups (V : Nat) (t : List Nat) (h : V ≤ 18446744073709551615) : uv (groups V ++ t) 0 0 = (V, (groups V).length) := by
  have := uv_vr 9 0 V 0 t (by omega) (by simp; omega) (by omega)
  simpa [groups] using this
theorem num_groups (V : Nat) (t : List Nat) (h : V ≤ 18446744073709551615) : numV (groups V ++ t) = V ∧ numN (groups V ++ t) = (groups V).length ∧ (groups V ++ t).drop (numN (groups V ++ t)) = t := by
  have e := uv_groups V t h
  have h2 : numN (groups V ++ t) = (groups V).length := by unfold numN; rw [e]
  exact ⟨by unfold numV; rw [e], h2, by rw [h2, List.drop_left]⟩
theorem strN_sb (s : ByteArray) : strN (sb s) = s := by
  have h : (strN (sb s)).data.toList = s.data.toList := by
    unfold strN sb
    rw [strOfNums_data, List.map_map, List.map_map]
    conv => rhs; rw [← List.map_id s.data.toList]
    apply List.map_congr_left
    intro a _
    simp
  cases s with
  | mk d =>
    cases h2 : strN (sb ⟨d⟩) with
    | mk d2 =>
      rw [h2] at h
      simp only at h
      rw [Array.toList_inj.1 h]
theorem tx_text (there : Bool) (s : ByteArray) (t : List Nat) (bad : Bool) (hs : s.size ≤ 2000) : txV there (textL there s ++ t) = (if there then sb s else []) ∧ txL there (textL there s ++ t) = t ∧ txB there (textL there s ++ t) bad = bad := by
  cases there
  · simp [txV, txL, txB, textL]
  · simp only [textL, if_true, List.append_assoc]
    obtain ⟨e1, e2, e3⟩ := num_groups s.size (sb s ++ t) (by omega)
    have hO : txO (groups s.size ++ (sb s ++ t)) = false := by
      unfold txO
      rw [e1, e3]
      apply decide_eq_false
      simp only [List.length_append, sb_len]
      omega
    have hne : (numN (groups s.size ++ (sb s ++ t)) == 0) = false := by
      rw [e2, beq_eq_false_iff_ne]
      have := (groups_len s.size).1
      omega
    simp only [txV, txL, txB, if_true, hO, hne, e1, e3, Bool.or_false]
    refine ⟨?_, ?_, trivial⟩
    · rw [← sb_len, List.take_left]; rfl
    · rw [← sb_len, List.drop_left]; rfl
theorem empty_of {s : ByteArray} (h : s.toList = []) : s = ⟨#[]⟩ := by
  rw [ByteArray.toList_eq] at h
  cases s with
  | mk d => rw [show d = #[] from Array.toList_inj.1 h]
theorem head_of (r : Rc) : headN r ≤ 3 ∧ (headN r % 2 == 1) = r.hk ∧ (headN r / 2 == 1) = r.hv := by
  unfold headN headB
  cases r.hk <;> cases r.hv <;> decide
/-- The record with its time moved. -/
def mv (r : Rc) (t : Int) : Rc := ⟨r.hk, r.k, r.hv, r.v, t, r.o⟩
theorem chk_mv {r : Rc} (h : chk r = 0) (t : Int) : chk (mv r t) = if timeB t = true then 0 else 1 := by
  obtain ⟨t0, t1, o0, o1, k1, v1, hk, hv⟩ := chk_ok h
  unfold chk oddB mv
  simp only
  by_cases ht : timeB t = true
  · rw [ht]
    grind
  · have : timeB t = false := by simpa using ht
    rw [this]
    simp
theorem dec_enc (r : Rc) (first other : Int) (t : List Nat) (hc : chk r = 0) (hf : timeB first = true) (ho : timeB other = true) :
    badAt (encL r first ++ t) = false ∧ gate (encL r first ++ t) other = true ∧ p4 (encL r first ++ t) = t ∧ rcOf (encL r first ++ t) other = mv r (r.t - first + other) := by
  obtain ⟨t0, t1, o0, o1, k1, v1, hk, hv⟩ := chk_ok hc
  obtain ⟨f0, f1⟩ := (time_iff first).1 hf
  obtain ⟨q0, q1⟩ := (time_iff other).1 ho
  obtain ⟨h3, ek, ev⟩ := head_of r
  have hz := zig_bd (r.t - first) (by omega) (by omega)
  have e0 : p0 (encL r first ++ t) = groups r.o.toNat ++ (groups (zig (r.t - first)).toNat ++ (textL r.hk r.k ++ (textL r.hv r.v ++ t))) := by
    unfold p0 encL
    simp [List.append_assoc]
  have g0 : (encL r first ++ t).getD 0 0 = headN r := rfl
  have hkk : hkOf (encL r first ++ t) = r.hk := by unfold hkOf; rw [g0]; exact ek
  have hvv : hvOf (encL r first ++ t) = r.hv := by unfold hvOf; rw [g0]; exact ev
  obtain ⟨a1, a2, a3⟩ := num_groups r.o.toNat (groups (zig (r.t - first)).toNat ++ (textL r.hk r.k ++ (textL r.hv r.v ++ t))) (by omega)
  have e1 : p1 (encL r first ++ t) = groups (zig (r.t - first)).toNat ++ (textL r.hk r.k ++ (textL r.hv r.v ++ t)) := by
    unfold p1; rw [e0, a3]
  obtain ⟨c1, c2, c3⟩ := num_groups (zig (r.t - first)).toNat (textL r.hk r.k ++ (textL r.hv r.v ++ t)) (by omega)
  have e2 : p2 (encL r first ++ t) = textL r.hk r.k ++ (textL r.hv r.v ++ t) := by
    unfold p2; rw [e1, c3]
  have eb : b2 (encL r first ++ t) = false := by
    unfold b2
    rw [e0, e1, a2, c2]
    have x1 := (groups_len r.o.toNat).1
    have x2 := (groups_len (zig (r.t - first)).toNat).1
    rw [Bool.or_eq_false_iff, beq_eq_false_iff_ne, beq_eq_false_iff_ne]
    omega
  have e3 : p3 (encL r first ++ t) = textL r.hv r.v ++ t := by
    unfold p3; rw [e2, hkk]; exact (tx_text r.hk r.k _ false k1).2.1
  have e4 : p4 (encL r first ++ t) = t := by
    unfold p4; rw [e3, hvv]; exact (tx_text r.hv r.v t false v1).2.1
  refine ⟨?_, ?_, e4, ?_⟩
  · unfold badAt
    rw [eb, e2, e3, hkk, hvv, (tx_text r.hk r.k _ false k1).2.2, (tx_text r.hv r.v t false v1).2.2]
  · unfold gate
    rw [ho, g0]
    simp [encL, h3]
  · unfold rcOf mv
    rw [hkk, hvv, e0, e1, e2, e3, (tx_text r.hk r.k _ false k1).1, (tx_text r.hv r.v t false v1).1, a1, c1]
    have s1 : strN (if r.hk = true then sb r.k else []) = r.k := by
      by_cases h : r.hk = true
      · rw [if_pos h]; exact strN_sb r.k
      · rw [if_neg h, empty_of (hk (by simpa using h))]; rfl
    have s2 : strN (if r.hv = true then sb r.v else []) = r.v := by
      by_cases h : r.hv = true
      · rw [if_pos h]; exact strN_sb r.v
      · rw [if_neg h, empty_of (hv (by simpa using h))]; rfl
    rw [s1, s2, show (((zig (r.t - first)).toNat : Nat) : Int) = zig (r.t - first) by omega, zag_zig, show ((r.o.toNat : Nat) : Int) = r.o by omega]
    have w1 : wrap64 (other + (r.t - first)) = r.t - first + other := by rw [w64 _ (by omega) (by omega)]; omega
    rw [w1, w64 r.o (by omega) (by omega)]
theorem dec_back (r : Rc) (first : Int) (t : List Nat) (hc : chk r = 0) (hf : timeB first = true) : okD (encL r first ++ t) first = true ∧ decR (encL r first ++ t) first = r ∧ decN (encL r first ++ t) first = (encL r first).length ∧ decE (encL r first ++ t) first = 0 := by
  obtain ⟨h1, h2, h3, h4⟩ := dec_enc r first first t hc hf hf
  have e : mv r (r.t - first + first) = r := by
    unfold mv
    rw [show r.t - first + first = r.t by omega]
  rw [e] at h4
  have ok : okD (encL r first ++ t) first = true := by
    unfold okD
    rw [h1, h2, h4, hc]
    rfl
  refine ⟨ok, ?_, ?_, ?_⟩
  · unfold decR; rw [if_pos ok, h4]
  · unfold decN; rw [if_pos ok, h3]; simp
  · unfold decE; rw [if_pos ok]
theorem dec_moved (r : Rc) (first other : Int) (hc : chk r = 0) (hf : timeB first = true) (ho : timeB other = true) :
    (timeB (r.t - first + other) = true → decR (encL r first) other = mv r (r.t - first + other) ∧ decE (encL r first) other = 0) ∧ (timeB (r.t - first + other) = false → decE (encL r first) other = 10) := by
  obtain ⟨h1, h2, h3, h4⟩ := dec_enc r first other [] hc hf ho
  rw [List.append_nil] at h1 h2 h3 h4
  constructor
  · intro ht
    have ok : okD (encL r first) other = true := by
      unfold okD
      rw [h1, h2, h4, chk_mv hc, ht]
      rfl
    exact ⟨by unfold decR; rw [if_pos ok, h4], by unfold decE; rw [if_pos ok]⟩
  · intro ht
    have ok : okD (encL r first) other = false := by
      unfold okD
      rw [h1, h2, h4, chk_mv hc, ht]
      rfl
    unfold decE
    rw [ok]
    rfl
theorem dec_cut (r : Rc) (first : Int) (k : Nat) (hc : chk r = 0) (hf : timeB first = true) (hk : k < (encL r first).length) : okD ((encL r first).take k) first = false := by
  cases h : okD ((encL r first).take k) first with
  | false => rfl
  | true =>
    exfalso
    obtain ⟨h1, h2, h3⟩ := dec_ext ((encL r first).drop k) h
    rw [List.take_append_drop] at h1 h2 h3
    obtain ⟨_, _, e, _⟩ := dec_enc r first first [] hc hf hf
    rw [List.append_nil] at e
    rw [e] at h3
    have := congrArg List.length h3
    simp only [List.length_nil, List.length_append, List.length_drop] at this
    omega
end Go.Proofs.YtaooidckmepdeaaDoor
