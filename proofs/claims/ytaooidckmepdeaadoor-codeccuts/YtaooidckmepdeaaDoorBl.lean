/- A batch's bytes on plain lists. -/
import Derived.Test.YtaooidckmepdeaaDoorCn
import Derived.Test.YtaooidckmepdeaaDoorRi
import Derived.Test.YtaooidckmepdeaaDoorPn
namespace Go.Proofs.YtaooidckmepdeaaDoor
set_option linter.unusedSimpArgs false
set_option linter.unusedVariables false
open Go.RowKit
/-- A number with its greatest byte first. -/
def lay (n V : Nat) : List Nat := (List.range n).map fun i => V / 256 ^ (n - 1 - i) % 256
theorem lay_len (n V : Nat) : (lay n V).length = n := by simp [lay]
theorem lay_get (n V i : Nat) (h : i < n) : (lay n V).getD i 0 = V / 256 ^ (n - 1 - i) % 256 := by simp [lay, List.getD, h]
theorem lay_mem (n V : Nat) : ∀ x, x ∈ lay n V → x < 256 := by
  intro x hx
  simp only [lay, List.mem_map] at hx
  obtain ⟨i, _, rfl⟩ := hx
  exact Nat.mod_lt _ (by decide)
theorem getD_app (A B : List Nat) (i : Nat) : (A ++ B).getD i 0 = if i < A.length then A.getD i 0 else B.getD (i - A.length) 0 := by
  simp only [List.getD, List.getElem?_append]
  split <;> rfl
theorem put_mid (A B C : List Nat) (n V : Nat) (h : B.length = n) : putL (A ++ (B ++ C)) A.length n true V = A ++ (lay n V ++ C) := by
  apply list_ext
  · rw [putL_length]; simp [lay_len, h]
  · intro i hi
    rw [putL_length] at hi
    rw [putL_get _ _ _ _ _ _ hi]
    by_cases h1 : A.length ≤ i ∧ i < A.length + n
    · rw [if_pos h1, getD_app, if_neg (by omega), getD_app, if_pos (by rw [lay_len]; omega), lay_get _ _ _ (by omega)]
      simp only [plc, if_true]
    · rw [if_neg h1, getD_app A (B ++ C), getD_app A (lay n V ++ C)]
      by_cases h2 : i < A.length
      · rw [if_pos h2, if_pos h2]
      · rw [if_neg h2, if_neg h2, getD_app B C, getD_app (lay n V) C, if_neg (by omega), if_neg (by rw [lay_len]; omega), lay_len, h]
theorem sm_digits (V n : Nat) : sm (fun j => V / 256 ^ j % 256) n = V % 256 ^ n := by
  induction n with
  | zero => simp [sm, Nat.mod_one]
  | succ n ih => rw [sm, ih, Nat.mod_pow_succ, Nat.mul_comm]
theorem get_mid (A C : List Nat) (n V : Nat) : getV (A ++ (lay n V ++ C)) A.length n true = V % 256 ^ n := by
  rw [← sm_digits]
  unfold getV
  apply sm_congr
  intro j hj
  simp only [plc, if_true]
  rw [getD_app, if_neg (by omega), getD_app, if_pos (by rw [lay_len]; omega), lay_get _ _ _ (by omega), show n - 1 - (A.length + (n - 1 - j) - A.length) = j by omega]
theorem sm_digit (f : Nat → Nat) (hf : ∀ j, f j < 256) (n k : Nat) (hk : k < n) : sm f n / 256 ^ k % 256 = f k := by
  induction n with
  | zero => omega
  | succ n ih =>
    rw [sm]
    by_cases h : k < n
    · have e : f n * 256 ^ n = 256 ^ k * (256 * (f n * 256 ^ (n - k - 1))) := by
        have : (256 : Nat) ^ n = 256 ^ k * (256 * 256 ^ (n - k - 1)) := by
          rw [← Nat.pow_succ', ← Nat.pow_add]; congr 1; omega
        rw [this, Nat.mul_left_comm, Nat.mul_left_comm (f n)]
      rw [e, Nat.add_mul_div_left _ _ (Nat.pow_pos (by decide)), Nat.add_mul_mod_self_left]
      exact ih h
    · obtain rfl : k = n := by omega
      have := sm_lt f hf k
      rw [Nat.add_mul_div_right _ _ (Nat.pow_pos (by decide)), Nat.div_eq_of_lt this, Nat.zero_add, Nat.mod_eq_of_lt (hf k)]
/-- What is read out of bytes, laid again, is those bytes. -/
theorem lay_getV (l : List Nat) (p n : Nat) (hl : ∀ x, x ∈ l → x < 256) (h : p + n ≤ l.length) : lay n (getV l p n true) = (l.drop p).take n := by
  have hb : ∀ j, l.getD j 0 < 256 := by
    intro j
    by_cases hj : j < l.length
    · simp only [List.getD, List.getElem?_eq_getElem hj, Option.getD_some]
      exact hl _ (List.getElem_mem hj)
    · rw [getD_out _ _ (by omega)]; omega
  apply list_ext
  · simp [lay_len]; omega
  · intro i hi
    rw [lay_len] at hi
    rw [lay_get _ _ _ hi]
    unfold getV
    rw [sm_digit _ (fun j => hb _) n _ (by omega)]
    simp only [plc, if_true, List.getD, List.getElem?_take, List.getElem?_drop, if_pos hi]
    rw [show p + (n - 1 - (n - 1 - i)) = p + i by omega]
theorem getV_lt (l : List Nat) (p n : Nat) (hl : ∀ j, l.getD j 0 < 256) : getV l p n true < 256 ^ n := sm_lt _ (fun j => hl _) n
/-- The records' bytes. -/
def bodyL (rs : List Rc) (first : Int) : List Nat := (rs.map fun r => encL r first).flatten
theorem body_cons (r : Rc) (rs : List Rc) (first : Int) : bodyL (r :: rs) first = encL r first ++ bodyL rs first := rfl
theorem body_nil (first : Int) : bodyL [] first = [] := rfl
theorem body_app (a b : List Rc) (first : Int) : bodyL (a ++ b) first = bodyL a first ++ bodyL b first := by simp [bodyL]
def frs (b : Ba) : Int := (b.rs.getD 0 rz).t
/-- What stands behind the Sum, but the records. -/
def midL (prod seq span cnt first : Nat) : List Nat := lay 8 prod ++ (lay 8 seq ++ (lay 4 span ++ (lay 4 cnt ++ lay 8 first)))
def tailL (b : Ba) : List Nat := midL b.prod.toNat b.seq.toNat b.span.toNat b.rs.length (frs b).toNat ++ bodyL b.rs (frs b)
def headL (base len sum : Nat) : List Nat := lay 8 base ++ (lay 4 len ++ lay 4 sum)
def encBL (b : Ba) : List Nat := headL b.base.toNat ((tailL b).length + 4) (P.sum (tailL b)) ++ tailL b
theorem mid_len (prod seq span cnt first : Nat) : (midL prod seq span cnt first).length = 32 := by simp [midL, lay_len]
theorem head_len (base len sum : Nat) : (headL base len sum).length = 16 := by simp [headL, lay_len]
theorem tail_len (b : Ba) : (tailL b).length = 32 + (bodyL b.rs (frs b)).length := by rw [tailL, List.length_append, mid_len]
theorem encB_len (b : Ba) : (encBL b).length = 48 + (bodyL b.rs (frs b)).length := by rw [encBL, List.length_append, head_len, tail_len]; omega
/-- Check's answer. -/
def chkB (b : Ba) : Int := if wrE b = 0 then (if 6000 < 48 + (bodyL b.rs (frs b)).length then 2 else 0) else wrE b
def encBR (b : Ba) : List Nat := if chkB b = 0 then encBL b else []
theorem wr_ok {b : Ba} (h : wrE b = 0) : (0 ≤ b.base ∧ b.base ≤ 1125899906842624) ∧ (1 ≤ b.span ∧ b.span ≤ 100) ∧ 0 ≤ b.prod ∧ 0 ≤ b.seq ∧ 0 < b.rs.length ∧ Rise b.rs b.span ∧ ∀ r, r ∈ b.rs → chk r = 0 := by
  unfold wrE at h
  split at h
  · rename_i hc
    simp only [numsB, baseB, Bool.and_eq_true, decide_eq_true_eq] at hc
    obtain ⟨⟨⟨⟨⟨⟨h1, h2⟩, h3⟩, h4⟩, h5⟩, h6⟩, h7⟩ := hc
    exact ⟨h1, ⟨h2, h3⟩, h4, h5, h6, rise_iff.1 h7, fst_all h⟩
  · omega
theorem getD_mem {rs : List Rc} {i : Nat} (h : i < rs.length) : rs.getD i rz ∈ rs := by
  simp only [List.getD, List.getElem?_eq_getElem h, Option.getD_some]
  exact List.getElem_mem h
theorem rise_ge {rs : List Rc} {span : Int} (h : Rise rs span) (hc : ∀ r, r ∈ rs → chk r = 0) : ∀ i, i < rs.length → (i : Int) ≤ (rs.getD i rz).o := by
  intro i
  induction i with
  | zero =>
    intro hi
    have := (chk_ok (hc _ (getD_mem hi))).2.2.1
    omega
  | succ i ih =>
    intro hi
    have h1 := ih (by omega)
    have h2 := (h (i + 1) hi).2 (by omega)
    simp only [Nat.add_sub_cancel] at h2
    omega
theorem wr_len {b : Ba} (h : wrE b = 0) : b.rs.length ≤ 100 ∧ (b.rs.length : Int) ≤ b.span := by
  obtain ⟨_, ⟨h1, h2⟩, _, _, h0, hr, hc⟩ := wr_ok h
  have h3 := rise_ge hr hc (b.rs.length - 1) (by omega)
  have h4 := (hr (b.rs.length - 1) (by omega)).1
  omega
theorem wr_time {b : Ba} (h : wrE b = 0) : timeB (frs b) = true := by
  obtain ⟨_, _, _, _, h0, _, hc⟩ := wr_ok h
  have := chk_ok (hc _ (getD_mem h0))
  exact (time_iff _).2 ⟨this.1, this.2.1⟩
theorem body_len {rs : List Rc} (first : Int) (hc : ∀ r, r ∈ rs → chk r = 0) : (bodyL rs first).length ≤ rs.length * 5000 := by
  induction rs with
  | nil => simp [bodyL]
  | cons r t ih =>
    rw [body_cons, List.length_append, List.length_cons]
    have h1 := ih (fun q hq => hc q (by simp [hq]))
    obtain ⟨_, _, _, _, k1, v1, _⟩ := chk_ok (hc r (by simp))
    have h2 := encL_len r first k1 v1
    omega
theorem mem_lt {l : List Nat} (h : ∀ i, l.getD i 0 < 256) : ∀ x, x ∈ l → x < 256 := by
  intro x hx
  obtain ⟨i, hi, rfl⟩ := List.getElem_of_mem hx
  have := h i
  simpa [List.getD, hi] using this
theorem lt_mem {l : List Nat} (h : ∀ x, x ∈ l → x < 256) : ∀ i, l.getD i 0 < 256 := by
  intro j
  by_cases hj : j < l.length
  · simp only [List.getD, List.getElem?_eq_getElem hj, Option.getD_some]
    exact h _ (List.getElem_mem hj)
  · rw [getD_out _ _ (by omega)]; omega
theorem body_mem {rs : List Rc} {first : Int} (hf : timeB first = true) (hc : ∀ r, r ∈ rs → chk r = 0) : ∀ x, x ∈ bodyL rs first → x < 256 := by
  intro x hx
  simp only [bodyL, List.mem_flatten, List.mem_map] at hx
  obtain ⟨l, ⟨r, hr, rfl⟩, hx⟩ := hx
  exact mem_lt (encL_lt r first (hc r hr) hf) x hx
theorem encB_mem {b : Ba} (h : wrE b = 0) : ∀ x, x ∈ encBL b → x < 256 := by
  intro x hx
  simp only [encBL, headL, tailL, midL, List.mem_append] at hx
  obtain ⟨_, _, _, _, _, _, hc⟩ := wr_ok h
  have hb := body_mem (wr_time h) hc
  rcases hx with (hx | hx | hx) | (hx | hx | hx | hx | hx) | hx
  all_goals first | exact lay_mem _ _ x hx | exact hb x hx
/-- Bytes that are left behind k records, and the records. -/
def rest (p : List Nat) (f : Int) : Nat → List Nat
  | 0 => p
  | k + 1 => (rest p f k).drop (decN (rest p f k) f)
def recs (p : List Nat) (f : Int) (n : Nat) : List Rc := (List.range n).map fun k => rcOf (rest p f k) f
def AllOk (p : List Nat) (f : Int) (n : Nat) : Prop := ∀ k, k < n → okD (rest p f k) f = true
theorem recs_len (p : List Nat) (f : Int) (n : Nat) : (recs p f n).length = n := by simp [recs]
theorem recs_succ (p : List Nat) (f : Int) (n : Nat) : recs p f (n + 1) = recs p f n ++ [rcOf (rest p f n) f] := by simp [recs, List.range_succ]
theorem rest_mem {p : List Nat} (f : Int) (n : Nat) (h : ∀ x, x ∈ p → x < 256) : ∀ x, x ∈ rest p f n → x < 256 := by
  induction n with
  | zero => exact h
  | succ n ih => intro x hx; exact ih x (List.mem_of_mem_drop hx)
theorem split_body {p : List Nat} {f : Int} (h : ∀ x, x ∈ p → x < 256) (n : Nat) (hok : AllOk p f n) : p = bodyL (recs p f n) f ++ rest p f n ∧ ∀ r, r ∈ recs p f n → chk r = 0 := by
  induction n with
  | zero => exact ⟨rfl, fun r hr => by simp [recs] at hr⟩
  | succ n ih =>
    obtain ⟨e, hc⟩ := ih (fun k hk => hok k (by omega))
    obtain ⟨d1, d2, d3⟩ := dec_canon (rest_mem f n h) (hok n (by omega))
    refine ⟨?_, fun r hr => ?_⟩
    · rw [recs_succ, body_app, List.append_assoc]
      show p = bodyL (recs p f n) f ++ (bodyL [rcOf (rest p f n) f] f ++ (rest p f n).drop (decN (rest p f n) f))
      rw [body_cons, body_nil, List.append_nil, ← d1]
      exact e
    · rw [recs_succ, List.mem_append, List.mem_singleton] at hr
      rcases hr with hr | rfl
      · exact hc r hr
      · exact d2
theorem rest_body {rs : List Rc} {f : Int} (t : List Nat) (hf : timeB f = true) (hc : ∀ r, r ∈ rs → chk r = 0) : ∀ k, k ≤ rs.length → rest (bodyL rs f ++ t) f k = bodyL (rs.drop k) f ++ t := by
  intro k
  induction k with
  | zero => intro _; rfl
  | succ k ih =>
    intro hk
    have e := ih (by omega)
    have hd : rs.drop k = rs[k] :: rs.drop (k + 1) := List.drop_eq_getElem_cons (by omega)
    obtain ⟨b0, b1, b2, b3⟩ := dec_back rs[k] f (bodyL (rs.drop (k + 1)) f ++ t) (hc _ (List.getElem_mem _)) hf
    have e2 : rest (bodyL rs f ++ t) f k = encL rs[k] f ++ (bodyL (rs.drop (k + 1)) f ++ t) := by rw [e, hd, body_cons, List.append_assoc]
    show (rest (bodyL rs f ++ t) f k).drop (decN (rest (bodyL rs f ++ t) f k) f) = _
    rw [e2, b2, List.drop_left]
theorem ok_body {rs : List Rc} {f : Int} (t : List Nat) (hf : timeB f = true) (hc : ∀ r, r ∈ rs → chk r = 0) : AllOk (bodyL rs f ++ t) f rs.length ∧ recs (bodyL rs f ++ t) f rs.length = rs ∧ rest (bodyL rs f ++ t) f rs.length = t := by
  have hk : ∀ k, (h : k < rs.length) → okD (rest (bodyL rs f ++ t) f k) f = true ∧ rcOf (rest (bodyL rs f ++ t) f k) f = rs[k] := by
    intro k h
    have hd : rs.drop k = rs[k] :: rs.drop (k + 1) := List.drop_eq_getElem_cons (by omega)
    obtain ⟨b0, b1, b2, b3⟩ := dec_back rs[k] f (bodyL (rs.drop (k + 1)) f ++ t) (hc _ (List.getElem_mem _)) hf
    rw [rest_body t hf hc k (by omega), hd, body_cons, List.append_assoc]
    unfold decR at b1
    rw [if_pos b0] at b1
    exact ⟨b0, b1⟩
  refine ⟨fun k h => (hk k h).1, ?_, ?_⟩
  · apply List.ext_getElem
    · simp [recs]
    · intro i h1 h2
      simp only [recs, List.getElem_map, List.getElem_range]
      exact (hk i h2).2
  · rw [rest_body t hf hc _ (Nat.le_refl _)]
    simp [bodyL]
/-- How many bytes a batch says it has. -/
def lenN (p : List Nat) : Nat := 12 + getV p 8 4 true
def frsOf (p : List Nat) : Int := wrap64 (getV p 40 8 true)
def cntOf (p : List Nat) : Nat := getV p 36 4 true
def partOf (p : List Nat) : List Nat := (p.take (lenN p)).drop 48
def bOf (p : List Nat) : Ba := ⟨wrap64 (getV p 0 8 true), getV p 32 4 true, wrap64 (getV p 16 8 true), wrap64 (getV p 24 8 true), recs (partOf p) (frsOf p) (cntOf p)⟩
structure OkB (p : List Nat) : Prop where
  l48 : 48 ≤ p.length
  n48 : 48 ≤ lenN p
  nl : lenN p ≤ p.length
  nm : lenN p ≤ 6000
  sum : P.sum ((p.take (lenN p)).drop 16) = getV p 12 4 true
  all : AllOk (partOf p) (frsOf p) (cntOf p)
  fin : rest (partOf p) (frsOf p) (cntOf p) = []
  wr : wrE (bOf p) = 0
  fst : frs (bOf p) = frsOf p
theorem take_cut (p : List Nat) (i n N : Nat) (h : i + n ≤ N) : (p.take N).drop i = (p.drop i).take n ++ (p.take N).drop (i + n) := by
  rw [← List.take_append_drop n ((p.take N).drop i), List.drop_drop, List.drop_take, List.take_take, Nat.min_eq_left (by omega)]
theorem lay_at {p : List Nat} (hp : ∀ x, x ∈ p → x < 256) (i n N : Nat) (h : i + n ≤ N) (hN : N ≤ p.length) : (p.take N).drop i = lay n (getV p i n true) ++ (p.take N).drop (i + n) := by
  rw [lay_getV p i n hp (by omega)]
  exact take_cut p i n N h
theorem wrap_nat {V : Nat} (h : V < 18446744073709551616) (h0 : 0 ≤ wrap64 V) : (wrap64 V).toNat = V := by
  unfold wrap64 at h0 ⊢
  omega
theorem len_back {N x : Nat} (h : N = 12 + x) (h2 : 48 ≤ N) : N - 16 + 4 = x := by omega
/-- What is read is what was written. -/
theorem okB_enc {p : List Nat} (hp : ∀ x, x ∈ p → x < 256) (h : OkB p) : p.take (lenN p) = encBL (bOf p) ∧ chkB (bOf p) = 0 ∧ (encBL (bOf p)).length = lenN p := by
  obtain ⟨l48, n48, nl, nm, hs, all, fin, wr, hf⟩ := h
  obtain ⟨⟨b0, b1⟩, ⟨s0, s1⟩, q0, q1, r0, hri, hc⟩ := wr_ok wr
  have hV : ∀ i, getV p i 8 true < 18446744073709551616 := fun i => by
    exact Nat.lt_of_lt_of_le (getV_lt p i 8 (lt_mem hp)) (by decide)
  have hpart : partOf p = bodyL (bOf p).rs (frs (bOf p)) := by
    have := (split_body (p := partOf p) (f := frsOf p) (fun x hx => hp x (List.mem_of_mem_take (List.mem_of_mem_drop hx))) (cntOf p) all).1
    rw [fin, List.append_nil] at this
    rw [hf]
    exact this
  have hb1 : (bOf p).base = wrap64 ((getV p 0 8 true : Nat) : Int) := rfl
  have hb2 : (bOf p).prod = wrap64 ((getV p 16 8 true : Nat) : Int) := rfl
  have hb3 : (bOf p).seq = wrap64 ((getV p 24 8 true : Nat) : Int) := rfl
  have hb4 : (bOf p).span = ((getV p 32 4 true : Nat) : Int) := rfl
  have hb5 : (bOf p).rs.length = getV p 36 4 true := recs_len (partOf p) (frsOf p) (cntOf p)
  have hb6 : frsOf p = wrap64 ((getV p 40 8 true : Nat) : Int) := rfl
  have hln : lenN p = 12 + getV p 8 4 true := rfl
  have hV0 := hV 0
  have hV1 := hV 16
  have hV2 := hV 24
  have hV3 := hV 40
  have htm := (time_iff _).1 (wr_time wr)
  have hl0 := lay_at hp 0 8 _ (Nat.le_trans (show 0 + 8 ≤ 48 by decide) n48) nl
  have hl1 := lay_at hp 8 4 _ (Nat.le_trans (show 8 + 4 ≤ 48 by decide) n48) nl
  have hl2 := lay_at hp 12 4 _ (Nat.le_trans (show 12 + 4 ≤ 48 by decide) n48) nl
  have hl3 := lay_at hp 16 8 _ (Nat.le_trans (show 16 + 8 ≤ 48 by decide) n48) nl
  have hl4 := lay_at hp 24 8 _ (Nat.le_trans (show 24 + 8 ≤ 48 by decide) n48) nl
  have hl5 := lay_at hp 32 4 _ (Nat.le_trans (show 32 + 4 ≤ 48 by decide) n48) nl
  have hl6 := lay_at hp 36 4 _ (Nat.le_trans (show 36 + 4 ≤ 48 by decide) n48) nl
  have hl7 := lay_at hp 40 8 _ (Nat.le_trans (show 40 + 8 ≤ 48 by decide) n48) nl
  clear hV
  generalize getV p 0 8 true = x0 at *
  generalize getV p 8 4 true = x1 at *
  generalize getV p 12 4 true = x2 at *
  generalize getV p 16 8 true = x3 at *
  generalize getV p 24 8 true = x4 at *
  generalize getV p 32 4 true = x5 at *
  generalize getV p 36 4 true = x6 at *
  generalize getV p 40 8 true = x7 at *
  have e1 : (bOf p).base.toNat = x0 := by rw [hb1] at b0 ⊢; exact wrap_nat hV0 b0
  have e2 : (bOf p).prod.toNat = x3 := by rw [hb2] at q0 ⊢; exact wrap_nat hV1 q0
  have e3 : (bOf p).seq.toNat = x4 := by rw [hb3] at q1 ⊢; exact wrap_nat hV2 q1
  have e4 : (bOf p).span.toNat = x5 := by rw [hb4]; simp
  have e6 : (frs (bOf p)).toNat = x7 := by
    rw [hf, hb6] at htm ⊢
    exact wrap_nat hV3 htm.1
  have hN : (p.take (lenN p)).length = lenN p := by rw [List.length_take]; exact Nat.min_eq_left nl
  have ht : (p.take (lenN p)).drop 16 = tailL (bOf p) := by
    rw [hl3, hl4, hl5, hl6, hl7]
    unfold tailL midL
    rw [e2, e3, e4, hb5, e6, ← hpart]
    simp only [partOf, List.append_assoc]
  have hl : (tailL (bOf p)).length + 4 = x1 := by
    rw [← ht, List.length_drop, hN]
    exact len_back hln n48
  have key : p.take (lenN p) = encBL (bOf p) := by
    have h0 : p.take (lenN p) = (p.take (lenN p)).drop 0 := List.drop_zero.symm
    rw [h0, hl0, hl1, hl2]
    unfold encBL headL
    rw [e1, hl, ← ht, hs]
    simp only [List.append_assoc]
  have hle : (encBL (bOf p)).length = lenN p := by rw [← key, hN]
  refine ⟨key, ?_, hle⟩
  unfold chkB
  rw [if_pos wr, ← encB_len, hle, if_neg (Nat.not_lt.2 nm)]
theorem sum_lt (l : List Nat) (hl : ∀ x, x ∈ l → x < 256) : P.sum l < 4294967296 := by
  unfold P.sum P.more
  exact Nat.xor_lt_two_pow (n := 32) (by decide) (P.reg_lt l _ (Nat.xor_lt_two_pow (n := 32) (by decide) (by decide)) hl)
theorem chk_parts {b : Ba} (h : chkB b = 0) : wrE b = 0 ∧ 48 + (bodyL b.rs (frs b)).length ≤ 6000 := by
  unfold chkB at h
  split at h
  · rename_i hw
    split at h
    · omega
    · exact ⟨hw, by omega⟩
  · rename_i hw
    exact absurd h hw
/-- The numbers of what was written. -/
structure Nums (p : List Nat) (b : Ba) : Prop where
  base : getV p 0 8 true = b.base.toNat
  len : getV p 8 4 true = (tailL b).length + 4
  sum : getV p 12 4 true = P.sum (tailL b)
  prod : getV p 16 8 true = b.prod.toNat
  seq : getV p 24 8 true = b.seq.toNat
  span : getV p 32 4 true = b.span.toNat
  cnt : getV p 36 4 true = b.rs.length
  first : getV p 40 8 true = (frs b).toNat
def In64B (b : Ba) : Prop := b.prod ≤ 9223372036854775807 ∧ b.seq ≤ 9223372036854775807
theorem nums_of {b : Ba} (t : List Nat) (h : wrE b = 0) (hi : In64B b) : Nums (encBL b ++ t) b := by
  obtain ⟨⟨b0, b1⟩, ⟨s0, s1⟩, q0, q1, r0, hri, hc⟩ := wr_ok h
  have hft := (time_iff _).1 (wr_time h)
  have hln := wr_len h
  have hbl := body_len (frs b) hc
  have htl := tail_len b
  have hsu := sum_lt (tailL b) (fun x hx => encB_mem h x (by unfold encBL; exact List.mem_append_right _ hx))
  obtain ⟨i0, i1⟩ := hi
  have e : encBL b ++ t = lay 8 b.base.toNat ++ (lay 4 ((tailL b).length + 4) ++ (lay 4 (P.sum (tailL b)) ++ (lay 8 b.prod.toNat ++ (lay 8 b.seq.toNat ++ (lay 4 b.span.toNat ++ (lay 4 b.rs.length ++ (lay 8 (frs b).toNat ++ (bodyL b.rs (frs b) ++ t)))))))) := by
    simp [encBL, headL, tailL, midL]
  have g : ∀ (A C : List Nat) (i n V : Nat), encBL b ++ t = A ++ (lay n V ++ C) → A.length = i → V < 256 ^ n → getV (encBL b ++ t) i n true = V := by
    intro A C i n V he hA hV
    rw [he, ← hA, get_mid, Nat.mod_eq_of_lt hV]
  refine ⟨g [] _ 0 8 _ e rfl (by omega), g (lay 8 b.base.toNat) _ 8 4 _ e (lay_len _ _) (by omega), g (lay 8 b.base.toNat ++ lay 4 ((tailL b).length + 4)) _ 12 4 _ (by rw [e, List.append_assoc]) (by simp [lay_len]) (by omega), ?_, ?_, ?_, ?_, ?_⟩
  · exact g (headL b.base.toNat ((tailL b).length + 4) (P.sum (tailL b))) (lay 8 b.seq.toNat ++ (lay 4 b.span.toNat ++ (lay 4 b.rs.length ++ (lay 8 (frs b).toNat ++ (bodyL b.rs (frs b) ++ t))))) 16 8 _ (by rw [e]; simp [headL]) (head_len _ _ _) (by omega)
  · exact g (headL b.base.toNat ((tailL b).length + 4) (P.sum (tailL b)) ++ lay 8 b.prod.toNat) (lay 4 b.span.toNat ++ (lay 4 b.rs.length ++ (lay 8 (frs b).toNat ++ (bodyL b.rs (frs b) ++ t)))) 24 8 _ (by rw [e]; simp [headL]) (by simp [head_len, lay_len]) (by omega)
  · exact g (headL b.base.toNat ((tailL b).length + 4) (P.sum (tailL b)) ++ (lay 8 b.prod.toNat ++ lay 8 b.seq.toNat)) (lay 4 b.rs.length ++ (lay 8 (frs b).toNat ++ (bodyL b.rs (frs b) ++ t))) 32 4 _ (by rw [e]; simp [headL]) (by simp [head_len, lay_len]) (by omega)
  · exact g (headL b.base.toNat ((tailL b).length + 4) (P.sum (tailL b)) ++ (lay 8 b.prod.toNat ++ (lay 8 b.seq.toNat ++ lay 4 b.span.toNat))) (lay 8 (frs b).toNat ++ (bodyL b.rs (frs b) ++ t)) 36 4 _ (by rw [e]; simp [headL]) (by simp [head_len, lay_len]) (by omega)
  · exact g (headL b.base.toNat ((tailL b).length + 4) (P.sum (tailL b)) ++ (lay 8 b.prod.toNat ++ (lay 8 b.seq.toNat ++ (lay 4 b.span.toNat ++ lay 4 b.rs.length)))) (bodyL b.rs (frs b) ++ t) 40 8 _ (by rw [e]; simp [headL]) (by simp [head_len, lay_len]) (by omega)
/-- What is written is read, whatever stands behind. -/
theorem encB_ok {b : Ba} (t : List Nat) (h : chkB b = 0) (hi : In64B b) : OkB (encBL b ++ t) ∧ bOf (encBL b ++ t) = b ∧ lenN (encBL b ++ t) = (encBL b).length := by
  obtain ⟨hw, h6⟩ := chk_parts h
  obtain ⟨⟨b0, b1⟩, ⟨s0, s1⟩, q0, q1, r0, hri, hc⟩ := wr_ok hw
  have hft := (time_iff _).1 (wr_time hw)
  obtain ⟨n1, n2, n3, n4, n5, n6, n7, n8⟩ := nums_of t hw hi
  have hle := encB_len b
  have htl := tail_len b
  obtain ⟨i0, i1⟩ := hi
  have hN : lenN (encBL b ++ t) = (encBL b).length := by unfold lenN; rw [n2]; omega
  have hT : (encBL b ++ t).take (lenN (encBL b ++ t)) = encBL b := by rw [hN, List.take_left]
  have hP : partOf (encBL b ++ t) = bodyL b.rs (frs b) := by
    unfold partOf
    rw [hT]
    have e : encBL b = (headL b.base.toNat ((tailL b).length + 4) (P.sum (tailL b)) ++ midL b.prod.toNat b.seq.toNat b.span.toNat b.rs.length (frs b).toNat) ++ bodyL b.rs (frs b) := by
      simp [encBL, tailL]
    rw [e]
    exact List.drop_left' (by rw [List.length_append, head_len, mid_len])
  have hF : frsOf (encBL b ++ t) = frs b := by
    unfold frsOf
    rw [n8, w64 _ (by omega) (by omega)]
    omega
  have hC : cntOf (encBL b ++ t) = b.rs.length := n7
  obtain ⟨o1, o2, o3⟩ := ok_body (rs := b.rs) (f := frs b) [] (wr_time hw) hc
  rw [List.append_nil] at o1 o2 o3
  have hB : bOf (encBL b ++ t) = b := by
    unfold bOf
    rw [hP, hF, hC, o2, n1, n4, n5, n6, w64 _ (by omega) (by omega), w64 _ (by omega) (by omega), w64 _ (by omega) (by omega)]
    obtain ⟨base, span, prod, seq, rs⟩ := b
    simp only [Ba.mk.injEq, and_true] at *
    omega
  refine ⟨⟨by rw [List.length_append]; omega, by omega, by rw [hN, List.length_append]; omega, by omega, ?_, by rw [hP, hF, hC]; exact o1, by rw [hP, hF, hC]; exact o3, by rw [hB]; exact hw, by rw [hB, hF]⟩, hB, hN⟩
  rw [hT, n3]
  have e : (encBL b).drop 16 = tailL b := by
    unfold encBL
    exact List.drop_left' (head_len _ _ _)
  rw [e]
end Go.Proofs.YtaooidckmepdeaaDoor
