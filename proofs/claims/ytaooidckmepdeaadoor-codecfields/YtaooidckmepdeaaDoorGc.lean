/- Crc Pn Bl Kp Bt in one text (wip/tools/merge20.py). -/
import Derived.Test.YtaooidckmepdeaaDoorGa
import Derived.Test.YtaooidckmepdeaaDoorGb
import Derived.Deep.RegionWith
namespace Go.Proofs.YtaooidckmepdeaaDoor.P
set_option linter.unusedSimpArgs false
set_option linter.unusedVariables false
/-- One bit on. -/
def sh (c : Nat) : Nat := if c % 2 = 1 then c / 2 ^^^ 2197175160 else c / 2
def shN : Nat → Nat → Nat
  | 0, c => c
  | n + 1, c => shN n (sh c)
/-- One byte more. -/
def stp (c x : Nat) : Nat := shN 8 (c ^^^ x)
def reg (c : Nat) (l : List Nat) : Nat := l.foldl stp c
def ones : Nat := 4294967295
def more (c : Nat) (l : List Nat) : Nat := ones ^^^ reg (ones ^^^ c) l
def sum (l : List Nat) : Nat := more 0 l
theorem xor_half (a b : Nat) : (a ^^^ b) / 2 = a / 2 ^^^ b / 2 := by
  have := Nat.shiftRight_xor_distrib (a := a) (b := b) (i := 1)
  simpa [Nat.shiftRight_eq_div_pow] using this
theorem xor_par (a b : Nat) : (a ^^^ b) % 2 = (a % 2 + b % 2) % 2 := by
  have := Nat.testBit_xor a b 0
  simp only [Nat.testBit_zero] at this
  rcases Nat.mod_two_eq_zero_or_one a with h1 | h1 <;> rcases Nat.mod_two_eq_zero_or_one b with h2 | h2 <;> rcases Nat.mod_two_eq_zero_or_one (a ^^^ b) with h3 | h3 <;> simp [h1, h2, h3] at this ⊢
theorem sh_zero : sh 0 = 0 := by decide
theorem sh_xor (a b : Nat) : sh (a ^^^ b) = sh a ^^^ sh b := by
  unfold sh
  rw [xor_half, xor_par]
  rcases Nat.mod_two_eq_zero_or_one a with h1 | h1 <;> rcases Nat.mod_two_eq_zero_or_one b with h2 | h2 <;> simp [h1, h2]
  · rw [Nat.xor_assoc]
  · rw [Nat.xor_assoc, Nat.xor_comm (b / 2), ← Nat.xor_assoc]
  · rw [Nat.xor_assoc, Nat.xor_comm (b / 2), ← Nat.xor_assoc 2197175160, Nat.xor_self, Nat.zero_xor]
theorem sh_lt (c : Nat) (h : c < 4294967296) : sh c < 4294967296 := by
  unfold sh
  split
  · exact Nat.xor_lt_two_pow (n := 32) (by omega) (by omega)
  · omega
theorem sh_inj0 (c : Nat) (h : c < 4294967296) (h0 : sh c = 0) : c = 0 := by
  unfold sh at h0
  split at h0
  · have : c / 2 = 2197175160 := by
      have := congrArg (· ^^^ 2197175160) h0
      simpa [Nat.xor_assoc] using this
    omega
  · omega
theorem shN_zero (n : Nat) : shN n 0 = 0 := by
  induction n with
  | zero => rfl
  | succ n ih => simp [shN, sh_zero, ih]
theorem shN_xor (n a b : Nat) : shN n (a ^^^ b) = shN n a ^^^ shN n b := by
  induction n generalizing a b with
  | zero => rfl
  | succ n ih => simp [shN, sh_xor, ih]
theorem shN_lt (n c : Nat) (h : c < 4294967296) : shN n c < 4294967296 := by
  induction n generalizing c with
  | zero => exact h
  | succ n ih => exact ih _ (sh_lt c h)
theorem shN_inj0 (n c : Nat) (h : c < 4294967296) (h0 : shN n c = 0) : c = 0 := by
  induction n generalizing c with
  | zero => exact h0
  | succ n ih => exact sh_inj0 c h (ih _ (sh_lt c h) h0)
theorem shN_add (m n c : Nat) : shN (m + n) c = shN n (shN m c) := by
  induction m generalizing c with
  | zero => simp [shN]
  | succ m ih => rw [Nat.succ_add]; simp [shN, ih]
theorem sh_even (y : Nat) : sh (2 * y) = y := by unfold sh; rw [if_neg (by omega)]; omega
theorem shN_pow (n y : Nat) : shN n (2 ^ n * y) = y := by
  induction n generalizing y with
  | zero => simp [shN]
  | succ n ih => rw [shN, Nat.pow_succ, Nat.mul_comm (2 ^ n), Nat.mul_assoc, sh_even, ih]
theorem stp_xor (c d x y : Nat) : stp (c ^^^ d) (x ^^^ y) = stp c x ^^^ stp d y := by
  unfold stp
  rw [← shN_xor]
  congr 1
  rw [Nat.xor_assoc, ← Nat.xor_assoc d, Nat.xor_comm d x, Nat.xor_assoc x, ← Nat.xor_assoc]
theorem stp_lt (c x : Nat) (h : c < 4294967296) (hx : x < 256) : stp c x < 4294967296 := shN_lt _ _ (Nat.xor_lt_two_pow (n := 32) (by omega) (by omega))
theorem reg_lt (l : List Nat) (c : Nat) (h : c < 4294967296) (hl : ∀ x, x ∈ l → x < 256) : reg c l < 4294967296 := by
  induction l generalizing c with
  | nil => exact h
  | cons x r ih => exact ih _ (stp_lt c x h (hl x (by simp))) (fun y hy => hl y (by simp [hy]))
theorem reg_append (c : Nat) (l m : List Nat) : reg c (l ++ m) = reg (reg c l) m := by simp [reg]
theorem reg_xor (l m : List Nat) (c d : Nat) (h : l.length = m.length) : reg (c ^^^ d) (List.zipWith (· ^^^ ·) l m) = reg c l ^^^ reg d m := by
  induction l generalizing m c d with
  | nil => cases m with
    | nil => rfl
    | cons y s => simp at h
  | cons x r ih => cases m with
    | nil => simp at h
    | cons y s =>
      simp only [List.zipWith_cons_cons, reg, List.foldl_cons]
      rw [stp_xor]
      exact ih s _ _ (by simpa using h)
theorem reg_zeros (n c : Nat) : reg c (List.replicate n 0) = shN (8 * n) c := by
  induction n generalizing c with
  | zero => rfl
  | succ n ih =>
    rw [List.replicate_succ, reg, List.foldl_cons]
    show reg (stp c 0) _ = _
    rw [ih, Nat.mul_succ, Nat.add_comm, shN_add]
    simp [stp]
/-- Going on from a sum. -/
theorem more_append (c : Nat) (l m : List Nat) : more (more c l) m = more c (l ++ m) := by
  unfold more
  rw [← Nat.xor_assoc, Nat.xor_self, Nat.zero_xor, reg_append]
/-- A register of its own, and the bytes from nought. -/
theorem reg_split (c : Nat) (l : List Nat) : reg c l = shN (8 * l.length) c ^^^ reg 0 l := by
  have e : List.zipWith (· ^^^ ·) (List.replicate l.length 0) l = l := by
    induction l with
    | nil => rfl
    | cons x r ih => simp [List.replicate_succ, ih]
  have := reg_xor (List.replicate l.length 0) l c 0 (by simp)
  rw [e, Nat.xor_zero, reg_zeros] at this
  exact this
/-- Join: the first sum goes on by n noughts, without the turns. -/
theorem join_eq (l m : List Nat) : more (sum l) m = shN (8 * m.length) (sum l) ^^^ sum m := by
  unfold sum
  generalize more 0 l = s
  unfold more
  rw [reg_split (ones ^^^ s), reg_split (ones ^^^ 0), shN_xor, Nat.xor_zero]
  rw [Nat.xor_comm (shN (8 * m.length) ones), ← Nat.xor_assoc, ← Nat.xor_assoc, ← Nat.xor_assoc, ← Nat.xor_assoc]
  rw [Nat.xor_comm ones, Nat.xor_assoc (shN (8 * m.length) s) ones, Nat.xor_assoc, Nat.xor_assoc]
/-- Three rows laid over one another. -/
theorem sum_mix (l m n : List Nat) (h1 : l.length = m.length) (h2 : m.length = n.length) : sum (List.zipWith (· ^^^ ·) (List.zipWith (· ^^^ ·) l m) n) = sum l ^^^ sum m ^^^ sum n := by
  unfold sum more
  simp only [Nat.xor_zero]
  have e1 := reg_xor (List.zipWith (· ^^^ ·) l m) n (ones ^^^ ones) ones (by simp [h1, h2])
  rw [reg_xor l m ones ones h1, Nat.xor_self, Nat.zero_xor] at e1
  rw [e1]
  generalize reg ones l = a
  generalize reg ones m = b
  generalize reg ones n = c
  have e2 : (ones ^^^ a) ^^^ (ones ^^^ b) = a ^^^ b := by
    rw [Nat.xor_comm ones a, Nat.xor_assoc, ← Nat.xor_assoc ones, Nat.xor_self, Nat.zero_xor]
  rw [e2, ← Nat.xor_assoc, Nat.xor_comm ones (a ^^^ b), Nat.xor_assoc]
/-- The sums of two rows of one length part by the register of what parts them. -/
theorem sum_diff (l d : List Nat) (h : l.length = d.length) : sum (List.zipWith (· ^^^ ·) l d) = sum l ^^^ reg 0 d := by
  unfold sum more
  simp only [Nat.xor_zero]
  have e1 := reg_xor l d ones 0 h
  rw [Nat.xor_zero] at e1
  rw [e1, ← Nat.xor_assoc]
/-- Four bytes at most, from nought: the number that they are goes on. -/
def num : List Nat → Nat
  | [] => 0
  | x :: r => x ^^^ 256 * num r
theorem reg_num (l : List Nat) (c : Nat) : reg c l = shN (8 * l.length) (c ^^^ num l) := by
  induction l generalizing c with
  | nil => simp [reg, num, shN]
  | cons x r ih =>
    show reg (stp c x) r = _
    rw [ih, num, List.length_cons, Nat.mul_succ, Nat.add_comm, shN_add, ← Nat.xor_assoc, shN_xor 8 (c ^^^ x)]
    congr 2
    exact (shN_pow 8 (num r)).symm
theorem num_lt (l : List Nat) (h : ∀ x, x ∈ l → x < 256) : num l < 256 ^ l.length := by
  induction l with
  | nil => simp [num]
  | cons x r ih =>
    have h1 := ih (fun y hy => h y (by simp [hy]))
    have h2 := h x (by simp)
    rw [num, List.length_cons]
    have e : (256 : Nat) ^ (r.length + 1) = 2 ^ (8 * (r.length + 1)) := by rw [Nat.pow_mul]
    rw [e]
    apply Nat.xor_lt_two_pow
    · have := Nat.pow_le_pow_right (n := 2) (by decide) (show 8 ≤ 8 * (r.length + 1) by omega)
      omega
    · rw [← e, Nat.pow_succ]; omega
theorem num_zero (l : List Nat) (h : ∀ x, x ∈ l → x < 256) (h0 : num l = 0) : ∀ x, x ∈ l → x = 0 := by
  induction l with
  | nil => simp
  | cons x r ih =>
    have hx := h x (by simp)
    rw [num] at h0
    have e : x = 256 * num r := by
      have := congrArg (x ^^^ ·) h0
      simp only [← Nat.xor_assoc, Nat.xor_self, Nat.zero_xor, Nat.xor_zero] at this
      exact this.symm
    have hr : num r = 0 := by omega
    intro y hy
    rcases List.mem_cons.1 hy with rfl | hy
    · omega
    · exact ih (fun z hz => h z (by simp [hz])) hr y hy
/-- What parts two rows within four neighbouring bytes parts their sums. -/
theorem burst (n m : Nat) (d : List Nat) (hd : ∀ x, x ∈ d → x < 256) (h4 : d.length ≤ 4) (h0 : reg 0 (List.replicate n 0 ++ d ++ List.replicate m 0) = 0) : ∀ x, x ∈ d → x = 0 := by
  rw [reg_append, reg_append, reg_zeros, reg_zeros, shN_zero, reg_num, Nat.zero_xor] at h0
  have hl := num_lt d hd
  have hp := Nat.pow_le_pow_right (n := 256) (by decide) h4
  have hlt : num d < 4294967296 := by omega
  exact num_zero d hd (shN_inj0 _ _ hlt (shN_inj0 _ _ (shN_lt _ _ hlt) h0))
theorem xor_zero_iff (a b : Nat) : a ^^^ b = a ↔ b = 0 := by
  constructor
  · intro h
    have := congrArg (a ^^^ ·) h
    simp only [← Nat.xor_assoc, Nat.xor_self, Nat.zero_xor] at this
    exact this
  · rintro rfl; simp
/-- A linear function on 32 binary digits by its values at the powers of two: what a matrix of 32 words holds. -/
def lin (f : Nat → Nat) (v : Nat) : Nat → Nat
  | 0 => 0
  | i + 1 => lin f v i ^^^ (if v / 2 ^ i % 2 = 1 then f (2 ^ i) else 0)
theorem low_xor (v i : Nat) : v % 2 ^ (i + 1) = v % 2 ^ i ^^^ (if v / 2 ^ i % 2 = 1 then 2 ^ i else 0) := by
  apply Nat.eq_of_testBit_eq
  intro j
  rw [Nat.testBit_xor, Nat.testBit_mod_two_pow, Nat.testBit_mod_two_pow]
  have hb : v.testBit i = decide (v / 2 ^ i % 2 = 1) := by
    simp only [Nat.testBit, Nat.shiftRight_eq_div_pow, Nat.one_and_eq_mod_two]
    rcases Nat.mod_two_eq_zero_or_one (v / 2 ^ i) with h | h <;> simp [h]
  rcases Nat.lt_trichotomy j i with h | h | h
  · split
    · rw [Nat.testBit_two_pow_of_ne (by omega)]; simp [h, show j < i + 1 by omega]
    · simp [h, show j < i + 1 by omega]
  · subst h
    split
    · rename_i c; simp [hb, c]
    · rename_i c; simp [hb, c]
  · split
    · rw [Nat.testBit_two_pow_of_ne (by omega)]; simp [show ¬ j < i by omega, show ¬ j < i + 1 by omega]
    · simp [show ¬ j < i by omega, show ¬ j < i + 1 by omega]
theorem lin_eq (f : Nat → Nat) (hf : ∀ a b, f (a ^^^ b) = f a ^^^ f b) (h0 : f 0 = 0) (v i : Nat) : lin f v i = f (v % 2 ^ i) := by
  induction i with
  | zero => simp [lin, h0, Nat.mod_one]
  | succ i ih =>
    rw [lin, ih, low_xor, hf]
    congr 1
    split
    · rfl
    · rw [h0]
end Go.Proofs.YtaooidckmepdeaaDoor.P
namespace Go.Proofs.YtaooidckmepdeaaDoor
set_option linter.unusedSimpArgs false
set_option linter.unusedVariables false
/-- Σ f j * 256^j, j < n. -/
def sm (f : Nat → Nat) : Nat → Nat
  | 0 => 0
  | n + 1 => sm f n + f n * 256 ^ n
theorem sm_lt (f : Nat → Nat) (hf : ∀ j, f j < 256) (n : Nat) : sm f n < 256 ^ n := by
  induction n with
  | zero => simp [sm]
  | succ n ih =>
    have h1 : f n * 256 ^ n ≤ 255 * 256 ^ n := Nat.mul_le_mul_right _ (by have := hf n; omega)
    simp only [sm, Nat.pow_succ]
    omega
theorem sm_congr (f g : Nat → Nat) (n : Nat) (h : ∀ j, j < n → f j = g j) : sm f n = sm g n := by
  induction n with
  | zero => rfl
  | succ n ih => simp only [sm]; rw [ih (fun j hj => h j (by omega)), h n (by omega)]
def plc (size : Nat) (big : Bool) (i : Nat) : Nat := if big then size - 1 - i else i
/-- The number of the bytes from p on. -/
def getV (l : List Nat) (p size : Nat) (big : Bool) : Nat := sm (fun j => l.getD (p + plc size big j) 0) size
/-- The bytes with the least 'size' bytes of V laid at p. -/
def putL (l : List Nat) (p size : Nat) (big : Bool) (V : Nat) : List Nat := (List.range l.length).map fun i => if p ≤ i ∧ i < p + size then V / 256 ^ plc size big (i - p) % 256 else l.getD i 0
theorem putL_length (l : List Nat) (p size : Nat) (big : Bool) (V : Nat) : (putL l p size big V).length = l.length := by simp [putL]
theorem putL_get (l : List Nat) (p size : Nat) (big : Bool) (V i : Nat) (h : i < l.length) : (putL l p size big V).getD i 0 = if p ≤ i ∧ i < p + size then V / 256 ^ plc size big (i - p) % 256 else l.getD i 0 := by
  simp [putL, List.getD, h]
theorem putL_lt (l : List Nat) (p size : Nat) (big : Bool) (V : Nat) (h : ∀ i, l.getD i 0 < 256) : ∀ i, (putL l p size big V).getD i 0 < 256 := by
  intro i
  by_cases hi : i < l.length
  · rw [putL_get _ _ _ _ _ _ hi]; split
    · omega
    · exact h i
  · rw [getD_out _ _ (by rw [putL_length]; omega)]; omega
end Go.Proofs.YtaooidckmepdeaaDoor
namespace Go.Proofs.YtaooidckmepdeaaDoor
set_option linter.unusedSimpArgs false
set_option linter.unusedVariables false
open Go.RowKit
/-- A number with its greatest byte first. -/
def lay (n V : Nat) : List Nat := (List.range n).map fun i => V / 256 ^ (n - 1 - i) % 256
theorem lay_len (n V : Nat) : (lay n V).length = n := by simp [lay]
theorem lay_get (n V i : Nat) (h : i < n) : (lay n V).getD i 0 = V / 256 ^ (n - 1 - i) % 256 := by simp [lay, List.getD, h]
theorem lay_mem (n V : Nat) : ∀ x, x ∈ lay n V → x < 256 := by
  intro x hx
  simp only [lay, List.mem_map] at hx
  obtain ⟨i, _, rfl⟩ := hx
  exact Nat.mod_lt _ (by decide)
theorem getD_app (A B : List Nat) (i : Nat) : (A ++ B).getD i 0 = if i < A.length then A.getD i 0 else B.getD (i - A.length) 0 := by
  simp only [List.getD, List.getElem?_append]
  split <;> rfl
theorem put_mid (A B C : List Nat) (n V : Nat) (h : B.length = n) : putL (A ++ (B ++ C)) A.length n true V = A ++ (lay n V ++ C) := by
  apply list_ext
  · rw [putL_length]; simp [lay_len, h]
  · intro i hi
    rw [putL_length] at hi
    rw [putL_get _ _ _ _ _ _ hi]
    by_cases h1 : A.length ≤ i ∧ i < A.length + n
    · rw [if_pos h1, getD_app, if_neg (by omega), getD_app, if_pos (by rw [lay_len]; omega), lay_get _ _ _ (by omega)]
      simp only [plc, if_true]
    · rw [if_neg h1, getD_app A (B ++ C), getD_app A (lay n V ++ C)]
      by_cases h2 : i < A.length
      · rw [if_pos h2, if_pos h2]
      · rw [if_neg h2, if_neg h2, getD_app B C, getD_app (lay n V) C, if_neg (by omega), if_neg (by rw [lay_len]; omega), lay_len, h]
theorem sm_digits (V n : Nat) : sm (fun j => V / 256 ^ j % 256) n = V % 256 ^ n := by
  induction n with
  | zero => simp [sm, Nat.mod_one]
  | succ n ih => rw [sm, ih, Nat.mod_pow_succ, Nat.mul_comm]
theorem get_mid (A C : List Nat) (n V : Nat) : getV (A ++ (lay n V ++ C)) A.length n true = V % 256 ^ n := by
  rw [← sm_digits]
  unfold getV
  apply sm_congr
  intro j hj
  simp only [plc, if_true]
  rw [getD_app, if_neg (by omega), getD_app, if_pos (by rw [lay_len]; omega), lay_get _ _ _ (by omega), show n - 1 - (A.length + (n - 1 - j) - A.length) = j by omega]
theorem sm_digit (f : Nat → Nat) (hf : ∀ j, f j < 256) (n k : Nat) (hk : k < n) : sm f n / 256 ^ k % 256 = f k := by
  induction n with
  | zero => omega
  | succ n ih =>
    rw [sm]
    by_cases h : k < n
    · have e : f n * 256 ^ n = 256 ^ k * (256 * (f n * 256 ^ (n - k - 1))) := by
        have : (256 : Nat) ^ n = 256 ^ k * (256 * 256 ^ (n - k - 1)) := by
          rw [← Nat.pow_succ', ← Nat.pow_add]; congr 1; omega
        rw [this, Nat.mul_left_comm, Nat.mul_left_comm (f n)]
      rw [e, Nat.add_mul_div_left _ _ (Nat.pow_pos (by decide)), Nat.add_mul_mod_self_left]
      exact ih h
    · obtain rfl : k = n := by omega
      have := sm_lt f hf k
      rw [Nat.add_mul_div_right _ _ (Nat.pow_pos (by decide)), Nat.div_eq_of_lt this, Nat.zero_add, Nat.mod_eq_of_lt (hf k)]
/-- What is read out of bytes, laid again, is those bytes. -/
theorem lay_getV (l : List Nat) (p n : Nat) (hl : ∀ x, x ∈ l → x < 256) (h : p + n ≤ l.length) : lay n (getV l p n true) = (l.drop p).take n := by
  have hb : ∀ j, l.getD j 0 < 256 := by
    intro j
    by_cases hj : j < l.length
    · simp only [List.getD, List.getElem?_eq_getElem hj, Option.getD_some]
      exact hl _ (List.getElem_mem hj)
    · rw [getD_out _ _ (by omega)]; omega
  apply list_ext
  · simp [lay_len]; omega
  · intro i hi
    rw [lay_len] at hi
    rw [lay_get _ _ _ hi]
    unfold getV
    rw [sm_digit _ (fun j => hb _) n _ (by omega)]
    simp only [plc, if_true, List.getD, List.getElem?_take, List.getElem?_drop, if_pos hi]
    rw [show p + (n - 1 - (n - 1 - i)) = p + i by omega]
theorem getV_lt (l : List Nat) (p n : Nat) (hl : ∀ j, l.getD j 0 < 256) : getV l p n true < 256 ^ n := sm_lt _ (fun j => hl _) n
/-- The records' bytes. -/
def bodyL (rs : List Rc) (first : Int) : List Nat := (rs.map fun r => encL r first).flatten
theorem body_cons (r : Rc) (rs : List Rc) (first : Int) : bodyL (r :: rs) first = encL r first ++ bodyL rs first := rfl
theorem body_nil (first : Int) : bodyL [] first = [] := rfl
theorem body_app (a b : List Rc) (first : Int) : bodyL (a ++ b) first = bodyL a first ++ bodyL b first := by simp [bodyL]
def frs (b : Ba) : Int := (b.rs.getD 0 rz).t
/-- What stands behind the Sum, but the records. -/
def midL (prod seq span cnt first : Nat) : List Nat := lay 8 prod ++ (lay 8 seq ++ (lay 4 span ++ (lay 4 cnt ++ lay 8 first)))
def tailL (b : Ba) : List Nat := midL b.prod.toNat b.seq.toNat b.span.toNat b.rs.length (frs b).toNat ++ bodyL b.rs (frs b)
def headL (base len sum : Nat) : List Nat := lay 8 base ++ (lay 4 len ++ lay 4 sum)
def encBL (b : Ba) : List Nat := headL b.base.toNat ((tailL b).length + 4) (P.sum (tailL b)) ++ tailL b
theorem mid_len (prod seq span cnt first : Nat) : (midL prod seq span cnt first).length = 32 := by simp [midL, lay_len]
theorem head_len (base len sum : Nat) : (headL base len sum).length = 16 := by simp [headL, lay_len]
theorem tail_len (b : Ba) : (tailL b).length = 32 + (bodyL b.rs (frs b)).length := by rw [tailL, List.length_append, mid_len]
theorem encB_len (b : Ba) : (encBL b).length = 48 + (bodyL b.rs (frs b)).length := by rw [encBL, List.length_append, head_len, tail_len]; omega
/-- Check's answer. -/
def chkB (b : Ba) : Int := if wrE b = 0 then (if 6000 < 48 + (bodyL b.rs (frs b)).length then 2 else 0) else wrE b
def encBR (b : Ba) : List Nat := if chkB b = 0 then encBL b else []
theorem wr_ok {b : Ba} (h : wrE b = 0) : (0 ≤ b.base ∧ b.base ≤ 1125899906842624) ∧ (1 ≤ b.span ∧ b.span ≤ 100) ∧ 0 ≤ b.prod ∧ 0 ≤ b.seq ∧ 0 < b.rs.length ∧ Rise b.rs b.span ∧ ∀ r, r ∈ b.rs → chk r = 0 := by
  unfold wrE at h
  split at h
  · rename_i hc
    simp only [numsB, baseB, Bool.and_eq_true, decide_eq_true_eq] at hc
    obtain ⟨⟨⟨⟨⟨⟨h1, h2⟩, h3⟩, h4⟩, h5⟩, h6⟩, h7⟩ := hc
    exact ⟨h1, ⟨h2, h3⟩, h4, h5, h6, rise_iff.1 h7, fst_all h⟩
  · omega
theorem getD_mem {rs : List Rc} {i : Nat} (h : i < rs.length) : rs.getD i rz ∈ rs := by
  simp only [List.getD, List.getElem?_eq_getElem h, Option.getD_some]
  exact List.getElem_mem h
theorem rise_ge {rs : List Rc} {span : Int} (h : Rise rs span) (hc : ∀ r, r ∈ rs → chk r = 0) : ∀ i, i < rs.length → (i : Int) ≤ (rs.getD i rz).o := by
  intro i
  induction i with
  | zero =>
    intro hi
    have := (chk_ok (hc _ (getD_mem hi))).2.2.1
    omega
  | succ i ih =>
    intro hi
    have h1 := ih (by omega)
    have h2 := (h (i + 1) hi).2 (by omega)
    simp only [Nat.add_sub_cancel] at h2
    omega
theorem wr_len {b : Ba} (h : wrE b = 0) : b.rs.length ≤ 100 ∧ (b.rs.length : Int) ≤ b.span := by
  obtain ⟨_, ⟨h1, h2⟩, _, _, h0, hr, hc⟩ := wr_ok h
  have h3 := rise_ge hr hc (b.rs.length - 1) (by omega)
  have h4 := (hr (b.rs.length - 1) (by omega)).1
  omega
theorem wr_time {b : Ba} (h : wrE b = 0) : timeB (frs b) = true := by
  obtain ⟨_, _, _, _, h0, _, hc⟩ := wr_ok h
  have := chk_ok (hc _ (getD_mem h0))
  exact (time_iff _).2 ⟨this.1, this.2.1⟩
theorem body_len {rs : List Rc} (first : Int) (hc : ∀ r, r ∈ rs → chk r = 0) : (bodyL rs first).length ≤ rs.length * 5000 := by
  induction rs with
  | nil => simp [bodyL]
  | cons r t ih =>
    rw [body_cons, List.length_append, List.length_cons]
    have h1 := ih (fun q hq => hc q (by simp [hq]))
    obtain ⟨_, _, _, _, k1, v1, _⟩ := chk_ok (hc r (by simp))
    have h2 := encL_len r first k1 v1
    omega
theorem mem_lt {l : List Nat} (h : ∀ i, l.getD i 0 < 256) : ∀ x, x ∈ l → x < 256 := by
  intro x hx
  obtain ⟨i, hi, rfl⟩ := List.getElem_of_mem hx
  have := h i
  simpa [List.getD, hi] using this
theorem lt_mem {l : List Nat} (h : ∀ x, x ∈ l → x < 256) : ∀ i, l.getD i 0 < 256 := by
  intro j
  by_cases hj : j < l.length
  · simp only [List.getD, List.getElem?_eq_getElem hj, Option.getD_some]
    exact h _ (List.getElem_mem hj)
  · rw [getD_out _ _ (by omega)]; omega
theorem body_mem {rs : List Rc} {first : Int} (hf : timeB first = true) (hc : ∀ r, r ∈ rs → chk r = 0) : ∀ x, x ∈ bodyL rs first → x < 256 := by
  intro x hx
  simp only [bodyL, List.mem_flatten, List.mem_map] at hx
  obtain ⟨l, ⟨r, hr, rfl⟩, hx⟩ := hx
  exact mem_lt (encL_lt r first (hc r hr) hf) x hx
theorem encB_mem {b : Ba} (h : wrE b = 0) : ∀ x, x ∈ encBL b → x < 256 := by
  intro x hx
  simp only [encBL, headL, tailL, midL, List.mem_append] at hx
  obtain ⟨_, _, _, _, _, _, hc⟩ := wr_ok h
  have hb := body_mem (wr_time h) hc
  rcases hx with (hx | hx | hx) | (hx | hx | hx | hx | hx) | hx
  all_goals first | exact lay_mem _ _ x hx | exact hb x hx
/-- Bytes that are left behind k records, and the records. -/
def rest (p : List Nat) (f : Int) : Nat → List Nat
  | 0 => p
  | k + 1 => (rest p f k).drop (decN (rest p f k) f)
def recs (p : List Nat) (f : Int) (n : Nat) : List Rc := (List.range n).map fun k => rcOf (rest p f k) f
def AllOk (p : List Nat) (f : Int) (n : Nat) : Prop := ∀ k, k < n → okD (rest p f k) f = true
theorem recs_len (p : List Nat) (f : Int) (n : Nat) : (recs p f n).length = n := by simp [recs]
theorem recs_succ (p : List Nat) (f : Int) (n : Nat) : recs p f (n + 1) = recs p f n ++ [rcOf (rest p f n) f] := by simp [recs, List.range_succ]
theorem rest_mem {p : List Nat} (f : Int) (n : Nat) (h : ∀ x, x ∈ p → x < 256) : ∀ x, x ∈ rest p f n → x < 256 := by
  induction n with
  | zero => exact h
  | succ n ih => intro x hx; exact ih x (List.mem_of_mem_drop hx)
theorem split_body {p : List Nat} {f : Int} (h : ∀ x, x ∈ p → x < 256) (n : Nat) (hok : AllOk p f n) : p = bodyL (recs p f n) f ++ rest p f n ∧ ∀ r, r ∈ recs p f n → chk r = 0 := by
  induction n with
  | zero => exact ⟨rfl, fun r hr => by simp [recs] at hr⟩
  | succ n ih =>
    obtain ⟨e, hc⟩ := ih (fun k hk => hok k (by omega))
    obtain ⟨d1, d2, d3⟩ := dec_canon (rest_mem f n h) (hok n (by omega))
    refine ⟨?_, fun r hr => ?_⟩
    · rw [recs_succ, body_app, List.append_assoc]
      show p = bodyL (recs p f n) f ++ (bodyL [rcOf (rest p f n) f] f ++ (rest p f n).drop (decN (rest p f n) f))
      rw [body_cons, body_nil, List.append_nil, ← d1]
      exact e
    · rw [recs_succ, List.mem_append, List.mem_singleton] at hr
      rcases hr with hr | rfl
      · exact hc r hr
      · exact d2
theorem rest_body {rs : List Rc} {f : Int} (t : List Nat) (hf : timeB f = true) (hc : ∀ r, r ∈ rs → chk r = 0) : ∀ k, k ≤ rs.length → rest (bodyL rs f ++ t) f k = bodyL (rs.drop k) f ++ t := by
  intro k
  induction k with
  | zero => intro _; rfl
  | succ k ih =>
    intro hk
    have e := ih (by omega)
    have hd : rs.drop k = rs[k] :: rs.drop (k + 1) := List.drop_eq_getElem_cons (by omega)
    obtain ⟨b0, b1, b2, b3⟩ := dec_back rs[k] f (bodyL (rs.drop (k + 1)) f ++ t) (hc _ (List.getElem_mem _)) hf
    have e2 : rest (bodyL rs f ++ t) f k = encL rs[k] f ++ (bodyL (rs.drop (k + 1)) f ++ t) := by rw [e, hd, body_cons, List.append_assoc]
    show (rest (bodyL rs f ++ t) f k).drop (decN (rest (bodyL rs f ++ t) f k) f) = _
    rw [e2, b2, List.drop_left]
theorem ok_body {rs : List Rc} {f : Int} (t : List Nat) (hf : timeB f = true) (hc : ∀ r, r ∈ rs → chk r = 0) : AllOk (bodyL rs f ++ t) f rs.length ∧ recs (bodyL rs f ++ t) f rs.length = rs ∧ rest (bodyL rs f ++ t) f rs.length = t := by
  have hk : ∀ k, (h : k < rs.length) → okD (rest (bodyL rs f ++ t) f k) f = true ∧ rcOf (rest (bodyL rs f ++ t) f k) f = rs[k] := by
    intro k h
    have hd : rs.drop k = rs[k] :: rs.drop (k + 1) := List.drop_eq_getElem_cons (by omega)
    obtain ⟨b0, b1, b2, b3⟩ := dec_back rs[k] f (bodyL (rs.drop (k + 1)) f ++ t) (hc _ (List.getElem_mem _)) hf
    rw [rest_body t hf hc k (by omega), hd, body_cons, List.append_assoc]
    unfold decR at b1
    rw [if_pos b0] at b1
    exact ⟨b0, b1⟩
  refine ⟨fun k h => (hk k h).1, ?_, ?_⟩
  · apply List.ext_getElem
    · simp [recs]
    · intro i h1 h2
      simp only [recs, List.getElem_map, List.getElem_range]
      exact (hk i h2).2
  · rw [rest_body t hf hc _ (Nat.le_refl _)]
    simp [bodyL]
/-- How many bytes a batch says it has. -/
def lenN (p : List Nat) : Nat := 12 + getV p 8 4 true
def frsOf (p : List Nat) : Int := wrap64 (getV p 40 8 true)
def cntOf (p : List Nat) : Nat := getV p 36 4 true
def partOf (p : List Nat) : List Nat := (p.take (lenN p)).drop 48
def bOf (p : List Nat) : Ba := ⟨wrap64 (getV p 0 8 true), getV p 32 4 true, wrap64 (getV p 16 8 true), wrap64 (getV p 24 8 true), recs (partOf p) (frsOf p) (cntOf p)⟩
structure OkB (p : List Nat) : Prop where
  l48 : 48 ≤ p.length
  n48 : 48 ≤ lenN p
  nl : lenN p ≤ p.length
  nm : lenN p ≤ 6000
  sum : P.sum ((p.take (lenN p)).drop 16) = getV p 12 4 true
  all : AllOk (partOf p) (frsOf p) (cntOf p)
  fin : rest (partOf p) (frsOf p) (cntOf p) = []
  wr : wrE (bOf p) = 0
  fst : frs (bOf p) = frsOf p
theorem take_cut (p : List Nat) (i n N : Nat) (h : i + n ≤ N) : (p.take N).drop i = (p.drop i).take n ++ (p.take N).drop (i + n) := by
  rw [← List.take_append_drop n ((p.take N).drop i), List.drop_drop, List.drop_take, List.take_take, Nat.min_eq_left (by omega)]
theorem lay_at {p : List Nat} (hp : ∀ x, x ∈ p → x < 256) (i n N : Nat) (h : i + n ≤ N) (hN : N ≤ p.length) : (p.take N).drop i = lay n (getV p i n true) ++ (p.take N).drop (i + n) := by
  rw [lay_getV p i n hp (by omega)]
  exact take_cut p i n N h
theorem wrap_nat {V : Nat} (h : V < 18446744073709551616) (h0 : 0 ≤ wrap64 V) : (wrap64 V).toNat = V := by
  unfold wrap64 at h0 ⊢
  omega
theorem len_back {N x : Nat} (h : N = 12 + x) (h2 : 48 ≤ N) : N - 16 + 4 = x := by omega
/-- What is read is what was written. -/
theorem okB_enc {p : List Nat} (hp : ∀ x, x ∈ p → x < 256) (h : OkB p) : p.take (lenN p) = encBL (bOf p) ∧ chkB (bOf p) = 0 ∧ (encBL (bOf p)).length = lenN p := by
  obtain ⟨l48, n48, nl, nm, hs, all, fin, wr, hf⟩ := h
  obtain ⟨⟨b0, b1⟩, ⟨s0, s1⟩, q0, q1, r0, hri, hc⟩ := wr_ok wr
  have hV : ∀ i, getV p i 8 true < 18446744073709551616 := fun i => by
    exact Nat.lt_of_lt_of_le (getV_lt p i 8 (lt_mem hp)) (by decide)
  have hpart : partOf p = bodyL (bOf p).rs (frs (bOf p)) := by
    have := (split_body (p := partOf p) (f := frsOf p) (fun x hx => hp x (List.mem_of_mem_take (List.mem_of_mem_drop hx))) (cntOf p) all).1
    rw [fin, List.append_nil] at this
    rw [hf]
    exact this
  have hb1 : (bOf p).base = wrap64 ((getV p 0 8 true : Nat) : Int) := rfl
  have hb2 : (bOf p).prod = wrap64 ((getV p 16 8 true : Nat) : Int) := rfl
  have hb3 : (bOf p).seq = wrap64 ((getV p 24 8 true : Nat) : Int) := rfl
  have hb4 : (bOf p).span = ((getV p 32 4 true : Nat) : Int) := rfl
  have hb5 : (bOf p).rs.length = getV p 36 4 true := recs_len (partOf p) (frsOf p) (cntOf p)
  have hb6 : frsOf p = wrap64 ((getV p 40 8 true : Nat) : Int) := rfl
  have hln : lenN p = 12 + getV p 8 4 true := rfl
  have hV0 := hV 0
  have hV1 := hV 16
  have hV2 := hV 24
  have hV3 := hV 40
  have htm := (time_iff _).1 (wr_time wr)
  have hl0 := lay_at hp 0 8 _ (Nat.le_trans (show 0 + 8 ≤ 48 by decide) n48) nl
  have hl1 := lay_at hp 8 4 _ (Nat.le_trans (show 8 + 4 ≤ 48 by decide) n48) nl
  have hl2 := lay_at hp 12 4 _ (Nat.le_trans (show 12 + 4 ≤ 48 by decide) n48) nl
  have hl3 := lay_at hp 16 8 _ (Nat.le_trans (show 16 + 8 ≤ 48 by decide) n48) nl
  have hl4 := lay_at hp 24 8 _ (Nat.le_trans (show 24 + 8 ≤ 48 by decide) n48) nl
  have hl5 := lay_at hp 32 4 _ (Nat.le_trans (show 32 + 4 ≤ 48 by decide) n48) nl
  have hl6 := lay_at hp 36 4 _ (Nat.le_trans (show 36 + 4 ≤ 48 by decide) n48) nl
  have hl7 := lay_at hp 40 8 _ (Nat.le_trans (show 40 + 8 ≤ 48 by decide) n48) nl
  clear hV
  generalize getV p 0 8 true = x0 at *
  generalize getV p 8 4 true = x1 at *
  generalize getV p 12 4 true = x2 at *
  generalize getV p 16 8 true = x3 at *
  generalize getV p 24 8 true = x4 at *
  generalize getV p 32 4 true = x5 at *
  generalize getV p 36 4 true = x6 at *
  generalize getV p 40 8 true = x7 at *
  have e1 : (bOf p).base.toNat = x0 := by rw [hb1] at b0 ⊢; exact wrap_nat hV0 b0
  have e2 : (bOf p).prod.toNat = x3 := by rw [hb2] at q0 ⊢; exact wrap_nat hV1 q0
  have e3 : (bOf p).seq.toNat = x4 := by rw [hb3] at q1 ⊢; exact wrap_nat hV2 q1
  have e4 : (bOf p).span.toNat = x5 := by rw [hb4]; simp
  have e6 : (frs (bOf p)).toNat = x7 := by
    rw [hf, hb6] at htm ⊢
    exact wrap_nat hV3 htm.1
  have hN : (p.take (lenN p)).length = lenN p := by rw [List.length_take]; exact Nat.min_eq_left nl
  have ht : (p.take (lenN p)).drop 16 = tailL (bOf p) := by
    rw [hl3, hl4, hl5, hl6, hl7]
    unfold tailL midL
    rw [e2, e3, e4, hb5, e6, ← hpart]
    simp only [partOf, List.append_assoc]
  have hl : (tailL (bOf p)).length + 4 = x1 := by
    rw [← ht, List.length_drop, hN]
    exact len_back hln n48
  have key : p.take (lenN p) = encBL (bOf p) := by
    have h0 : p.take (lenN p) = (p.take (lenN p)).drop 0 := List.drop_zero.symm
    rw [h0, hl0, hl1, hl2]
    unfold encBL headL
    rw [e1, hl, ← ht, hs]
    simp only [List.append_assoc]
  have hle : (encBL (bOf p)).length = lenN p := by rw [← key, hN]
  refine ⟨key, ?_, hle⟩
  unfold chkB
  rw [if_pos wr, ← encB_len, hle, if_neg (Nat.not_lt.2 nm)]
theorem sum_lt (l : List Nat) (hl : ∀ x, x ∈ l → x < 256) : P.sum l < 4294967296 := by
  unfold P.sum P.more
  exact Nat.xor_lt_two_pow (n := 32) (by decide) (P.reg_lt l _ (Nat.xor_lt_two_pow (n := 32) (by decide) (by decide)) hl)
theorem chk_parts {b : Ba} (h : chkB b = 0) : wrE b = 0 ∧ 48 + (bodyL b.rs (frs b)).length ≤ 6000 := by
  unfold chkB at h
  split at h
  · rename_i hw
    split at h
    · omega
    · exact ⟨hw, by omega⟩
  · rename_i hw
    exact absurd h hw
/-- The numbers of what was written. -/
structure Nums (p : List Nat) (b : Ba) : Prop where
  base : getV p 0 8 true = b.base.toNat
  len : getV p 8 4 true = (tailL b).length + 4
  sum : getV p 12 4 true = P.sum (tailL b)
  prod : getV p 16 8 true = b.prod.toNat
  seq : getV p 24 8 true = b.seq.toNat
  span : getV p 32 4 true = b.span.toNat
  cnt : getV p 36 4 true = b.rs.length
  first : getV p 40 8 true = (frs b).toNat
def In64B (b : Ba) : Prop := b.prod ≤ 9223372036854775807 ∧ b.seq ≤ 9223372036854775807
theorem nums_of {b : Ba} (t : List Nat) (h : wrE b = 0) (hi : In64B b) : Nums (encBL b ++ t) b := by
  obtain ⟨⟨b0, b1⟩, ⟨s0, s1⟩, q0, q1, r0, hri, hc⟩ := wr_ok h
  have hft := (time_iff _).1 (wr_time h)
  have hln := wr_len h
  have hbl := body_len (frs b) hc
  have htl := tail_len b
  have hsu := sum_lt (tailL b) (fun x hx => encB_mem h x (by unfold encBL; exact List.mem_append_right _ hx))
  obtain ⟨i0, i1⟩ := hi
  have e : encBL b ++ t = lay 8 b.base.toNat ++ (lay 4 ((tailL b).length + 4) ++ (lay 4 (P.sum (tailL b)) ++ (lay 8 b.prod.toNat ++ (lay 8 b.seq.toNat ++ (lay 4 b.span.toNat ++ (lay 4 b.rs.length ++ (lay 8 (frs b).toNat ++ (bodyL b.rs (frs b) ++ t)))))))) := by
    simp [encBL, headL, tailL, midL]
  have g : ∀ (A C : List Nat) (i n V : Nat), encBL b ++ t = A ++ (lay n V ++ C) → A.length = i → V < 256 ^ n → getV (encBL b ++ t) i n true = V := by
    intro A C i n V he hA hV
    rw [he, ← hA, get_mid, Nat.mod_eq_of_lt hV]
  refine ⟨g [] _ 0 8 _ e rfl (by omega), g (lay 8 b.base.toNat) _ 8 4 _ e (lay_len _ _) (by omega), g (lay 8 b.base.toNat ++ lay 4 ((tailL b).length + 4)) _ 12 4 _ (by rw [e, List.append_assoc]) (by simp [lay_len]) (by omega), ?_, ?_, ?_, ?_, ?_⟩
  · exact g (headL b.base.toNat ((tailL b).length + 4) (P.sum (tailL b))) (lay 8 b.seq.toNat ++ (lay 4 b.span.toNat ++ (lay 4 b.rs.length ++ (lay 8 (frs b).toNat ++ (bodyL b.rs (frs b) ++ t))))) 16 8 _ (by rw [e]; simp [headL]) (head_len _ _ _) (by omega)
  · exact g (headL b.base.toNat ((tailL b).length + 4) (P.sum (tailL b)) ++ lay 8 b.prod.toNat) (lay 4 b.span.toNat ++ (lay 4 b.rs.length ++ (lay 8 (frs b).toNat ++ (bodyL b.rs (frs b) ++ t)))) 24 8 _ (by rw [e]; simp [headL]) (by simp [head_len, lay_len]) (by omega)
  · exact g (headL b.base.toNat ((tailL b).length + 4) (P.sum (tailL b)) ++ (lay 8 b.prod.toNat ++ lay 8 b.seq.toNat)) (lay 4 b.rs.length ++ (lay 8 (frs b).toNat ++ (bodyL b.rs (frs b) ++ t))) 32 4 _ (by rw [e]; simp [headL]) (by simp [head_len, lay_len]) (by omega)
  · exact g (headL b.base.toNat ((tailL b).length + 4) (P.sum (tailL b)) ++ (lay 8 b.prod.toNat ++ (lay 8 b.seq.toNat ++ lay 4 b.span.toNat))) (lay 8 (frs b).toNat ++ (bodyL b.rs (frs b) ++ t)) 36 4 _ (by rw [e]; simp [headL]) (by simp [head_len, lay_len]) (by omega)
  · exact g (headL b.base.toNat ((tailL b).length + 4) (P.sum (tailL b)) ++ (lay 8 b.prod.toNat ++ (lay 8 b.seq.toNat ++ (lay 4 b.span.toNat ++ lay 4 b.rs.length)))) (bodyL b.rs (frs b) ++ t) 40 8 _ (by rw [e]; simp [headL]) (by simp [head_len, lay_len]) (by omega)
/-- What is written is read, whatever stands behind. -/
theorem encB_ok {b : Ba} (t : List Nat) (h : chkB b = 0) (hi : In64B b) : OkB (encBL b ++ t) ∧ bOf (encBL b ++ t) = b ∧ lenN (encBL b ++ t) = (encBL b).length := by
  obtain ⟨hw, h6⟩ := chk_parts h
  obtain ⟨⟨b0, b1⟩, ⟨s0, s1⟩, q0, q1, r0, hri, hc⟩ := wr_ok hw
  have hft := (time_iff _).1 (wr_time hw)
  obtain ⟨n1, n2, n3, n4, n5, n6, n7, n8⟩ := nums_of t hw hi
  have hle := encB_len b
  have htl := tail_len b
  obtain ⟨i0, i1⟩ := hi
  have hN : lenN (encBL b ++ t) = (encBL b).length := by unfold lenN; rw [n2]; omega
  have hT : (encBL b ++ t).take (lenN (encBL b ++ t)) = encBL b := by rw [hN, List.take_left]
  have hP : partOf (encBL b ++ t) = bodyL b.rs (frs b) := by
    unfold partOf
    rw [hT]
    have e : encBL b = (headL b.base.toNat ((tailL b).length + 4) (P.sum (tailL b)) ++ midL b.prod.toNat b.seq.toNat b.span.toNat b.rs.length (frs b).toNat) ++ bodyL b.rs (frs b) := by
      simp [encBL, tailL]
    rw [e]
    exact List.drop_left' (by rw [List.length_append, head_len, mid_len])
  have hF : frsOf (encBL b ++ t) = frs b := by
    unfold frsOf
    rw [n8, w64 _ (by omega) (by omega)]
    omega
  have hC : cntOf (encBL b ++ t) = b.rs.length := n7
  obtain ⟨o1, o2, o3⟩ := ok_body (rs := b.rs) (f := frs b) [] (wr_time hw) hc
  rw [List.append_nil] at o1 o2 o3
  have hB : bOf (encBL b ++ t) = b := by
    unfold bOf
    rw [hP, hF, hC, o2, n1, n4, n5, n6, w64 _ (by omega) (by omega), w64 _ (by omega) (by omega), w64 _ (by omega) (by omega)]
    obtain ⟨base, span, prod, seq, rs⟩ := b
    simp only [Ba.mk.injEq, and_true] at *
    omega
  refine ⟨⟨by rw [List.length_append]; omega, by omega, by rw [hN, List.length_append]; omega, by omega, ?_, by rw [hP, hF, hC]; exact o1, by rw [hP, hF, hC]; exact o3, by rw [hB]; exact hw, by rw [hB, hF]⟩, hB, hN⟩
  rw [hT, n3]
  have e : (encBL b).drop 16 = tailL b := by
    unfold encBL
    exact List.drop_left' (head_len _ _ _)
  rw [e]
end Go.Proofs.YtaooidckmepdeaaDoor
namespace Go.Proofs.YtaooidckmepdeaaDoor
set_option linter.unusedSimpArgs false
set_option linter.unusedVariables false
open Go.RowKit
/-- Bytes, or what may not be. -/
abbrev Ls := Option (List Nat)
def oa : Ls → Ls → Ls
  | some x, some y => some (x ++ y)
  | _, _ => none
theorem oa_some {a b : Ls} {L : List Nat} (h : oa a b = some L) : ∃ x y, a = some x ∧ b = some y ∧ L = x ++ y := by
  cases a with
  | none => simp [oa] at h
  | some x =>
    cases b with
    | none => simp [oa] at h
    | some y => simp [oa] at h; exact ⟨x, y, rfl, rfl, h.symm⟩
theorem oa_none (a : Ls) : oa a none = none := by cases a <;> rfl
theorem none_oa (a : Ls) : oa none a = none := rfl
theorem oa_nil (a : Ls) : oa a (some []) = a := by cases a <;> simp [oa]
theorem nil_oa (a : Ls) : oa (some []) a = a := by cases a <;> simp [oa]
theorem oa_assoc (a b c : Ls) : oa (oa a b) c = oa a (oa b c) := by
  cases a <;> cases b <;> cases c <;> simp [oa]
/-- All are bytes. -/
def Byt (l : List Nat) : Prop := ∀ c, c ∈ l → c < 256
theorem Byt.left {a b : List Nat} (h : Byt (a ++ b)) : Byt a := fun c hc => h c (List.mem_append_left _ hc)
theorem Byt.right {a b : List Nat} (h : Byt (a ++ b)) : Byt b := fun c hc => h c (List.mem_append_right _ hc)
theorem Byt.app {a b : List Nat} (h : Byt a) (k : Byt b) : Byt (a ++ b) := fun c hc => by
  rcases List.mem_append.1 hc with q | q
  · exact h c q
  · exact k c q
theorem Byt.drop {a : List Nat} (h : Byt a) (n : Nat) : Byt (a.drop n) := fun c hc => h c (List.mem_of_mem_drop hc)
theorem Byt.getD {a : List Nat} (h : Byt a) : ∀ i, a.getD i 0 < 256 := lt_mem h
/-- What is written is read, and what is read is written so. -/
structure Pr {α : Type} (V : α → Prop) (en : α → Ls) (pa : Ls → α × Ls) : Prop where
  back : ∀ x L t, V x → en x = some L → pa (some (L ++ t)) = (x, some t)
  once : ∀ l x t, Byt l → pa (some l) = (x, some t) → V x ∧ ∃ L, en x = some L ∧ l = L ++ t
  bad : (pa none).2 = none
/-- A number of n bytes. -/
def gN (n : Nat) : Ls → Nat × Ls
  | some l => if n ≤ l.length then (getV l 0 n true, some (l.drop n)) else (0, none)
  | none => (0, none)
def eNat (n : Nat) (v : Int) : Ls := if 0 ≤ v ∧ v < ((256 ^ n : Nat) : Int) then some (lay n v.toNat) else none
def gNat (n : Nat) (s : Ls) : Int × Ls := (((gN n s).1 : Nat), (gN n s).2)
theorem gN_lay (n V : Nat) (t : List Nat) (h : V < 256 ^ n) : gN n (some (lay n V ++ t)) = (V, some t) := by
  unfold gN
  have h1 := get_mid [] t n V
  rw [List.nil_append] at h1
  simp only [List.length_append, lay_len, Nat.le_add_right, if_true, List.length_nil] at h1 ⊢
  rw [h1, Nat.mod_eq_of_lt h, List.drop_left' (lay_len n V)]
theorem gN_some {n : Nat} {l : List Nat} {v : Nat} {t : List Nat} (hl : Byt l) (h : gN n (some l) = (v, some t)) : l = lay n v ++ t ∧ v < 256 ^ n := by
  unfold gN at h
  simp only at h
  split at h
  · rename_i hn
    simp only [Prod.mk.injEq, Option.some.injEq] at h
    obtain ⟨rfl, rfl⟩ := h
    refine ⟨?_, getV_lt l 0 n hl.getD⟩
    rw [lay_getV l 0 n hl (by omega), List.drop_zero, List.take_append_drop]
  · simp at h
theorem gN_none (n : Nat) : gN n none = (0, none) := rfl
theorem gN_le {n : Nat} {l : List Nat} {v : Nat} {t : List Nat} (h : gN n (some l) = (v, some t)) : t.length ≤ l.length := by
  unfold gN at h
  simp only at h
  split at h
  · simp only [Prod.mk.injEq, Option.some.injEq] at h
    obtain ⟨_, rfl⟩ := h
    simp
  · simp at h
theorem pr_nat (n : Nat) : Pr (fun _ => True) (eNat n) (gNat n) := by
  refine ⟨fun x L t _ h => ?_, fun l x t hl h => ?_, rfl⟩
  · unfold eNat at h
    split at h
    · rename_i hx
      simp only [Option.some.injEq] at h
      subst h
      have hv : x.toNat < 256 ^ n := by omega
      unfold gNat
      rw [gN_lay n _ t hv]
      simp only [Prod.mk.injEq, and_true]
      omega
    · simp at h
  · unfold gNat at h
    simp only [Prod.mk.injEq] at h
    obtain ⟨rfl, h2⟩ := h
    obtain ⟨e, hv⟩ := gN_some (v := (gN n (some l)).1) (t := t) hl (by rw [← h2])
    refine ⟨trivial, lay n (gN n (some l)).1, ?_, e⟩
    unfold eNat
    rw [if_pos ⟨by omega, by omega⟩, Int.toNat_natCast]
/-- An int and its digits. -/
def un (v : Int) : Nat := (v % 18446744073709551616).toNat
def iv (u : Nat) : Int := if u < 9223372036854775808 then (u : Int) else (u : Int) - 18446744073709551616
def In64 (v : Int) : Prop := -9223372036854775808 ≤ v ∧ v ≤ 9223372036854775807
theorem un_lt (v : Int) : un v < 18446744073709551616 := by unfold un; omega
theorem iv_un {v : Int} (h : In64 v) : iv (un v) = v := by
  obtain ⟨h1, h2⟩ := h
  unfold iv un
  split <;> omega
theorem un_iv {u : Nat} (h : u < 18446744073709551616) : un (iv u) = u ∧ In64 (iv u) := by
  unfold iv un In64
  split <;> omega
def eInt (v : Int) : List Nat := lay 8 (un v)
def gI (s : Ls) : Int × Ls := (iv (gN 8 s).1, (gN 8 s).2)
theorem pr_int : Pr In64 (fun v => some (eInt v)) gI := by
  refine ⟨fun x L t hx h => ?_, fun l x t hl h => ?_, rfl⟩
  · simp only [Option.some.injEq] at h
    subst h
    unfold gI eInt
    rw [gN_lay 8 _ t (un_lt x)]
    simp only [iv_un hx]
  · unfold gI at h
    simp only [Prod.mk.injEq] at h
    obtain ⟨rfl, h2⟩ := h
    obtain ⟨e, hv⟩ := gN_some (v := (gN 8 (some l)).1) (t := t) hl (by rw [← h2])
    obtain ⟨q1, q2⟩ := un_iv (show (gN 8 (some l)).1 < 18446744073709551616 from hv)
    refine ⟨q2, _, rfl, ?_⟩
    unfold eInt
    rw [q1]
    exact e
/-- A text behind its length. -/
def eText (s : ByteArray) : Ls := if s.size ≤ 65535 then some (lay 2 s.size ++ sb s) else none
def gB : Nat × Ls → ByteArray × Ls
  | (n, some l) => if n ≤ l.length then (strN (l.take n), some (l.drop n)) else (⟨#[]⟩, none)
  | (_, none) => (⟨#[]⟩, none)
def gT (s : Ls) : ByteArray × Ls := gB (gN 2 s)
theorem sb_byt (s : ByteArray) : Byt (sb s) := fun c hc => by
  simp only [sb, List.mem_map] at hc
  obtain ⟨x, _, rfl⟩ := hc
  exact x.toNat_lt
theorem pr_text : Pr (fun _ => True) eText gT := by
  refine ⟨fun x L t _ h => ?_, fun l x t hl h => ?_, rfl⟩
  · unfold eText at h
    split at h
    · rename_i hx
      simp only [Option.some.injEq] at h
      subst h
      unfold gT
      rw [List.append_assoc, gN_lay 2 x.size _ (by omega)]
      unfold gB
      simp only
      rw [if_pos (by rw [List.length_append, sb_len]; omega), List.take_left' (sb_len x), List.drop_left' (sb_len x), strN_sb]
    · simp at h
  · unfold gT at h
    cases hg : gN 2 (some l) with
    | mk n s1 =>
      rw [hg] at h
      cases s1 with
      | none => simp [gB] at h
      | some l1 =>
        obtain ⟨e, hn⟩ := gN_some hl hg
        unfold gB at h
        simp only at h
        split at h
        · rename_i hle
          simp only [Prod.mk.injEq, Option.some.injEq] at h
          obtain ⟨rfl, rfl⟩ := h
          have hb : Byt l1 := by rw [e] at hl; exact hl.right
          have hs : sb (strN (l1.take n)) = l1.take n := sb_strN _ (fun c hc => hb c (List.mem_of_mem_take hc))
          have hz : (strN (l1.take n)).size = n := by rw [← sb_len, hs, List.length_take]; omega
          refine ⟨trivial, lay 2 n ++ l1.take n, ?_, ?_⟩
          · unfold eText
            rw [hz, hs, if_pos (by omega)]
          · rw [List.append_assoc, List.take_append_drop]
            exact e
        · simp at h
/-- A number up to the greatest that may be. -/
def gUp (n most : Nat) (s : Ls) : Nat × Ls := if most < (gN n s).1 then (0, none) else gN n s
theorem gUp_lay (n most V : Nat) (t : List Nat) (h : V < 256 ^ n) (hm : V ≤ most) : gUp n most (some (lay n V ++ t)) = (V, some t) := by
  unfold gUp
  rw [gN_lay n V t h]
  simp only
  rw [if_neg (by omega)]
theorem gUp_some {n most : Nat} {l : List Nat} {v : Nat} {t : List Nat} (hl : Byt l) (h : gUp n most (some l) = (v, some t)) : l = lay n v ++ t ∧ v < 256 ^ n ∧ v ≤ most := by
  unfold gUp at h
  split at h
  · simp at h
  · rename_i hm
    obtain ⟨a, b⟩ := gN_some hl h
    rw [h] at hm
    exact ⟨a, b, by simp only at hm; omega⟩
theorem gUp_none (n most : Nat) : gUp n most none = (0, none) := by unfold gUp; simp [gN]
/-- A flag. -/
def gFlag (s : Ls) : Int × Ls := (((gUp 1 1 s).1 : Nat), (gUp 1 1 s).2)
theorem pr_flag : Pr (fun v => v = 0 ∨ v = 1) (eNat 1) gFlag := by
  refine ⟨fun x L t hx h => ?_, fun l x t hl h => ?_, by unfold gFlag; rw [gUp_none]⟩
  · unfold eNat at h
    rw [if_pos (by omega)] at h
    simp only [Option.some.injEq] at h
    subst h
    unfold gFlag
    rw [gUp_lay 1 1 x.toNat t (by omega) (by omega)]
    simp only [Prod.mk.injEq, and_true]
    omega
  · unfold gFlag at h
    simp only [Prod.mk.injEq] at h
    obtain ⟨rfl, h2⟩ := h
    obtain ⟨e, hv, hm⟩ := gUp_some (v := (gUp 1 1 (some l)).1) (t := t) hl (by rw [← h2])
    refine ⟨by omega, lay 1 (gUp 1 1 (some l)).1, ?_, e⟩
    unfold eNat
    rw [if_pos ⟨by omega, by omega⟩, Int.toNat_natCast]
/-- A record. -/
def eIf (c : Bool) (s : ByteArray) : Ls := if c then eText s else some []
def okR (r : Rc) : Bool := decide (r.o = 0) && (r.hk || decide (r.k.size = 0)) && (r.hv || decide (r.v.size = 0))
def eRec (r : Rc) : Ls := if okR r = true then oa (some (lay 1 (headB r.hk r.hv))) (oa (eIf r.hk r.k) (oa (eIf r.hv r.v) (some (eInt r.t)))) else none
def gIf (c : Bool) (s : Ls) : ByteArray × Ls := if c then gT s else (⟨#[]⟩, s)
def gRec (s : Ls) : Rc × Ls :=
  let m := gUp 1 3 s
  let k := gIf (m.1 % 2 == 1) m.2
  let v := gIf (m.1 / 2 == 1) k.2
  let t := gI v.2
  (⟨m.1 % 2 == 1, k.1, m.1 / 2 == 1, v.1, t.1, 0⟩, t.2)
theorem size_zero {s : ByteArray} (h : s.size = 0) : s = ⟨#[]⟩ := by
  have h1 : sb s = [] := List.eq_nil_of_length_eq_zero (by rw [sb_len, h])
  rw [← strN_sb s, h1]
  exact strN_nil
theorem strN_nil0 : (⟨#[]⟩ : ByteArray).size = 0 := rfl
theorem gIf_back (c : Bool) (s : ByteArray) (L t : List Nat) (h : eIf c s = some L) (h0 : (c || decide (s.size = 0)) = true) : gIf c (some (L ++ t)) = (s, some t) := by
  unfold eIf at h
  unfold gIf
  cases c with
  | true => simp only [if_true] at h ⊢; exact pr_text.back s L t trivial h
  | false =>
    simp only [Bool.false_or, decide_eq_true_eq] at h0
    simp only [Bool.false_eq_true, if_false, Option.some.injEq] at h
    subst h
    rw [size_zero h0]; simp
theorem gIf_once {c : Bool} {l : List Nat} {s : ByteArray} {t : List Nat} (hl : Byt l) (h : gIf c (some l) = (s, some t)) : (c || decide (s.size = 0)) = true ∧ ∃ L, eIf c s = some L ∧ l = L ++ t := by
  unfold gIf at h
  unfold eIf
  cases c with
  | true =>
    simp only [if_true] at h ⊢
    exact ⟨rfl, (pr_text.once l s t hl h).2⟩
  | false =>
    simp at h
    obtain ⟨rfl, rfl⟩ := h
    exact ⟨by simp [strN_nil0], [], by simp, by simp⟩
theorem gIf_bad (c : Bool) : (gIf c none).2 = none := by cases c <;> rfl
theorem head_bits (hk hv : Bool) : (headB hk hv % 2 == 1) = hk ∧ (headB hk hv / 2 == 1) = hv ∧ headB hk hv ≤ 3 := by
  cases hk <;> cases hv <;> decide
theorem gI_bad : (gI none).2 = none := rfl
theorem pr_rec : Pr (fun r => In64 r.t) eRec gRec := by
  refine ⟨fun r L t hr h => ?_, fun l r t hl h => ?_, ?_⟩
  · unfold eRec at h
    split at h
    · rename_i hok
      simp only [okR, Bool.and_eq_true, decide_eq_true_eq] at hok
      obtain ⟨⟨h0, h1⟩, h2⟩ := hok
      obtain ⟨a, r1, ea, k1, rfl⟩ := oa_some h
      obtain ⟨b, r2, eb, k2, rfl⟩ := oa_some k1
      obtain ⟨c, d, ec, ed, rfl⟩ := oa_some k2
      simp only [Option.some.injEq] at ea ed
      subst ea
      obtain ⟨p1, p2, p3⟩ := head_bits r.hk r.hv
      unfold gRec
      simp only [List.append_assoc]
      rw [gUp_lay 1 3 _ _ (by omega) p3]
      simp only [p1, p2]
      rw [gIf_back r.hk r.k b _ eb (by simpa using h1)]
      simp only
      rw [gIf_back r.hv r.v c _ ec (by simpa using h2)]
      simp only
      rw [pr_int.back r.t d t hr (by rw [ed])]
      obtain ⟨hk, k, hv, v, tt, o⟩ := r
      simp only at h0
      rw [h0]
    · simp at h
  · unfold gRec at h
    simp only [Prod.mk.injEq] at h
    obtain ⟨hr, h⟩ := h
    cases hm : gUp 1 3 (some l) with
    | mk m s1 =>
      rw [hm] at h hr
      simp only at h hr
      cases s1 with
      | none =>
        have h1 := gIf_bad (m % 2 == 1)
        rw [h1] at h
        rw [gIf_bad] at h
        simp [gI_bad] at h
      | some l1 =>
        obtain ⟨e1, hv1, hm3⟩ := gUp_some hl hm
        have hl1 : Byt l1 := by rw [e1] at hl; exact hl.right
        cases hk : gIf (m % 2 == 1) (some l1) with
        | mk k s2 =>
          rw [hk] at h hr
          simp only at h hr
          cases s2 with
          | none => rw [gIf_bad] at h; simp [gI_bad] at h
          | some l2 =>
            obtain ⟨o1, A, eA, e2⟩ := gIf_once hl1 hk
            have hl2 : Byt l2 := by rw [e2] at hl1; exact hl1.right
            cases hv : gIf (m / 2 == 1) (some l2) with
            | mk v s3 =>
              rw [hv] at h hr
              simp only at h hr
              cases s3 with
              | none => simp [gI_bad] at h
              | some l3 =>
                obtain ⟨o2, C, eC, e3⟩ := gIf_once hl2 hv
                have hl3 : Byt l3 := by rw [e3] at hl2; exact hl2.right
                obtain ⟨o3, D, eD, e4⟩ := pr_int.once l3 (gI (some l3)).1 t hl3 (by rw [← h])
                have hh : headB (m % 2 == 1) (m / 2 == 1) = m := head_canon m hm3
                subst hr
                refine ⟨o3, lay 1 m ++ (A ++ (C ++ D)), ?_, by rw [e1, e2, e3, e4]; simp⟩
                unfold eRec
                rw [if_pos (by simp only [okR, o1, o2]; decide)]
                simp only
                rw [hh, eA, eC]
                simp only [Option.some.injEq] at eD
                rw [eD]
                rfl
  · unfold gRec
    simp only [gUp_none]
    rw [gIf_bad, gIf_bad, gI_bad]
/-- A batch. -/
def eBat (b : Ba) : Ls := if chkB b = 0 then some (encBL b) else none
section
variable {α : Type}
def eL (en : α → Ls) : List α → Ls
  | [] => some []
  | x :: r => oa (en x) (eL en r)
def eRow (en : α → Ls) (l : List α) : Ls := if l.length ≤ 65535 then oa (some (lay 2 l.length)) (eL en l) else none
def gC (x : α) : List α × Ls → List α × Ls
  | (xs, some l) => (x :: xs, some l)
  | (_, none) => ([], none)
def gL (pa : Ls → α × Ls) : Nat → Ls → List α × Ls
  | 0, s => ([], s)
  | k + 1, s => if (pa s).2 = none then ([], none) else gC (pa s).1 (gL pa k (pa s).2)
def gRow (pa : Ls → α × Ls) (s : Ls) : List α × Ls := gL pa (gN 2 s).1 (gN 2 s).2
theorem eL_app (en : α → Ls) (a b : List α) : eL en (a ++ b) = oa (eL en a) (eL en b) := by
  induction a with
  | nil => simp [eL, nil_oa]
  | cons x r ih => simp only [List.cons_append, eL, ih, oa_assoc]
theorem gL_back {V : α → Prop} {en : α → Ls} {pa : Ls → α × Ls} (p : Pr V en pa) : ∀ (l : List α) (L t : List Nat), (∀ x, x ∈ l → V x) → eL en l = some L → gL pa l.length (some (L ++ t)) = (l, some t) := by
  intro l
  induction l with
  | nil => intro L t _ h; simp [eL] at h; subst h; simp [gL]
  | cons x r ih =>
    intro L t hV h
    obtain ⟨a, b, ea, eb, rfl⟩ := oa_some h
    have h1 := p.back x a (b ++ t) (hV x (by simp)) ea
    rw [List.append_assoc]
    simp only [List.length_cons, gL]
    rw [h1]
    simp only [reduceCtorEq, if_false]
    rw [ih b t (fun y hy => hV y (by simp [hy])) eb]
    rfl
theorem gL_once {V : α → Prop} {en : α → Ls} {pa : Ls → α × Ls} (p : Pr V en pa) : ∀ (n : Nat) (l : List Nat) (xs : List α) (t : List Nat), Byt l → gL pa n (some l) = (xs, some t) → xs.length = n ∧ (∀ x, x ∈ xs → V x) ∧ ∃ L, eL en xs = some L ∧ l = L ++ t := by
  intro n
  induction n with
  | zero =>
    intro l xs t hl h
    simp [gL] at h
    obtain ⟨rfl, rfl⟩ := h
    exact ⟨rfl, by simp, [], rfl, by simp⟩
  | succ n ih =>
    intro l xs t hl h
    simp only [gL] at h
    split at h
    · simp at h
    · rename_i hne
      cases hp : pa (some l) with
      | mk x s1 =>
        rw [hp] at h hne
        simp only at h hne
        cases s1 with
        | none => simp at hne
        | some l1 =>
          obtain ⟨v, A, eA, e1⟩ := p.once l x l1 hl hp
          cases hg : gL pa n (some l1) with
          | mk ys s2 =>
            rw [hg] at h
            cases s2 with
            | none => simp [gC] at h
            | some l2 =>
              simp only [gC, Prod.mk.injEq, Option.some.injEq] at h
              obtain ⟨rfl, rfl⟩ := h
              obtain ⟨c1, c2, C, eC, e2⟩ := ih l1 ys l2 (by rw [e1] at hl; exact hl.right) hg
              refine ⟨by simp [c1], ?_, A ++ C, ?_, by rw [e1, e2]; simp⟩
              · intro z hz
                rcases List.mem_cons.1 hz with rfl | hz
                · exact v
                · exact c2 z hz
              · simp only [eL, eA, eC, oa]
theorem gL_bad {pa : Ls → α × Ls} (hb : (pa none).2 = none) (n : Nat) : (gL pa n none).2 = none := by
  cases n with
  | zero => rfl
  | succ n => simp [gL, hb]
theorem pr_row {V : α → Prop} {en : α → Ls} {pa : Ls → α × Ls} (p : Pr V en pa) : Pr (fun l => ∀ x, x ∈ l → V x) (eRow en) (gRow pa) := by
  refine ⟨fun l L t hV h => ?_, fun l xs t hl h => ?_, gL_bad p.bad _⟩
  · unfold eRow at h
    split at h
    · rename_i hl
      obtain ⟨a, b, ea, eb, rfl⟩ := oa_some h
      simp only [Option.some.injEq] at ea
      subst ea
      unfold gRow
      rw [List.append_assoc, gN_lay 2 _ _ (by omega)]
      exact gL_back p l b t hV eb
    · simp at h
  · unfold gRow at h
    cases hg : gN 2 (some l) with
    | mk n s1 =>
      rw [hg] at h
      simp only at h
      cases s1 with
      | none =>
        have := gL_bad p.bad n
        rw [h] at this
        simp at this
      | some l1 =>
        obtain ⟨e, hn⟩ := gN_some hl hg
        obtain ⟨c1, c2, C, eC, e2⟩ := gL_once p n l1 xs t (by rw [e] at hl; exact hl.right) h
        refine ⟨c2, lay 2 n ++ C, ?_, by rw [e, e2]; simp⟩
        unfold eRow
        rw [c1, if_pos (by omega), eC]
        rfl
end
/-- What Decode answers. -/
def okQ (l : List Nat) : Bool := decide (chkB (bOf l) = 0) && decide (encBL (bOf l) = l.take (lenN l)) && decide (lenN l ≤ l.length)
theorem bOf_in (l : List Nat) : In64B (bOf l) := by
  have h : ∀ x : Int, wrap64 x ≤ 9223372036854775807 := fun x => by unfold wrap64; omega
  exact ⟨h _, h _⟩
theorem okQ_iff {l : List Nat} (hl : Byt l) : okQ l = true ↔ OkB l := by
  unfold okQ
  simp only [Bool.and_eq_true, decide_eq_true_eq]
  constructor
  · rintro ⟨⟨h1, h2⟩, h3⟩
    have h := (encB_ok (l.drop (lenN l)) h1 (bOf_in l)).1
    rw [h2, List.take_append_drop] at h
    exact h
  · intro h
    obtain ⟨h1, h2, h3⟩ := okB_enc hl h
    exact ⟨⟨h2, h1.symm⟩, h.nl⟩
def gBat : Ls → Ba × Ls
  | some l => if okQ l = true then (bOf l, some (l.drop (lenN l))) else (⟨0, 0, 0, 0, []⟩, none)
  | none => (⟨0, 0, 0, 0, []⟩, none)
theorem pr_bat : Pr In64B eBat gBat := by
  refine ⟨fun b L t hb h => ?_, fun l b t hl h => ?_, rfl⟩
  · unfold eBat at h
    split at h
    · rename_i hc
      simp only [Option.some.injEq] at h
      subst h
      obtain ⟨_, h2, h3⟩ := encB_ok t hc hb
      unfold gBat
      simp only
      rw [if_pos (by unfold okQ; rw [h2, h3, List.take_left]; simp [hc]), h2, h3, List.drop_left]
    · simp at h
  · unfold gBat at h
    simp only at h
    split at h
    · rename_i hq
      simp only [Prod.mk.injEq, Option.some.injEq] at h
      obtain ⟨rfl, rfl⟩ := h
      unfold okQ at hq
      simp only [Bool.and_eq_true, decide_eq_true_eq] at hq
      obtain ⟨⟨h1, h2⟩, h3⟩ := hq
      refine ⟨bOf_in l, encBL (bOf l), by unfold eBat; rw [if_pos h1], ?_⟩
      rw [h2, List.take_append_drop]
    · simp at h
/-- A field's value: only what it is made of is not nothing. -/
structure Fv where
  n : Int
  t : ByteArray
  rs : List Rc
  nm : List ByteArray
  ct : List Int
  bs : List Ba
def fz : Fv := ⟨0, ⟨#[]⟩, [], [], [], []⟩
def vn (x : Int) : Fv := ⟨x, ⟨#[]⟩, [], [], [], []⟩
def vt (x : ByteArray) : Fv := ⟨0, x, [], [], [], []⟩
def vr' (x : List Rc) : Fv := ⟨0, ⟨#[]⟩, x, [], [], []⟩
def vm (x : List ByteArray) : Fv := ⟨0, ⟨#[]⟩, [], x, [], []⟩
def vc (x : List Int) : Fv := ⟨0, ⟨#[]⟩, [], [], x, []⟩
def vb (x : List Ba) : Fv := ⟨0, ⟨#[]⟩, [], [], [], x⟩
/-- What a field is made of: 0 an int, 1 a flag, 2 a text, 3 records, 4 names, 5 counts, 6 batches. -/
def kd (f : Nat) : Nat := if f ≤ 1 then 2 else if f = 7 then 1 else if f = 11 then 3 else if f = 17 then 4 else if f = 18 then 5 else if f = 19 then 6 else 0
def eK (k : Nat) (v : Fv) : Ls := if k = 2 then eText v.t else if k = 1 then eNat 1 v.n else if k = 3 then eRow eRec v.rs else if k = 4 then eRow eText v.nm else if k = 5 then eRow (fun x => some (eInt x)) v.ct else if k = 6 then eRow eBat v.bs else some (eInt v.n)
def gK (k : Nat) (s : Ls) : Fv × Ls := if k = 2 then (vt (gT s).1, (gT s).2) else if k = 1 then (vn (gFlag s).1, (gFlag s).2) else if k = 3 then (vr' (gRow gRec s).1, (gRow gRec s).2) else if k = 4 then (vm (gRow gT s).1, (gRow gT s).2) else if k = 5 then (vc (gRow gI s).1, (gRow gI s).2) else if k = 6 then (vb (gRow gBat s).1, (gRow gBat s).2) else (vn (gI s).1, (gI s).2)
def VK (k : Nat) (v : Fv) : Prop := if k = 2 then v = vt v.t else if k = 1 then v = vn v.n ∧ (v.n = 0 ∨ v.n = 1) else if k = 3 then v = vr' v.rs ∧ (∀ r, r ∈ v.rs → In64 r.t) else if k = 4 then v = vm v.nm else if k = 5 then v = vc v.ct ∧ (∀ x, x ∈ v.ct → In64 x) else if k = 6 then v = vb v.bs ∧ (∀ x, x ∈ v.bs → In64B x) else v = vn v.n ∧ In64 v.n
theorem kd_cases (f : Nat) : kd f = 0 ∨ kd f = 1 ∨ kd f = 2 ∨ kd f = 3 ∨ kd f = 4 ∨ kd f = 5 ∨ kd f = 6 := by
  unfold kd
  repeat' split
  all_goals simp
theorem pr_map {α : Type} {V : α → Prop} {en : α → Ls} {pa : Ls → α × Ls} (p : Pr V en pa) (mk : α → Fv) (un' : Fv → α) (hu : ∀ x, un' (mk x) = x) :
    Pr (fun v => v = mk (un' v) ∧ V (un' v)) (fun v => en (un' v)) (fun s => (mk (pa s).1, (pa s).2)) := by
  refine ⟨fun v L t hv h => ?_, fun l v t hl h => ?_, p.bad⟩
  · obtain ⟨e, hV⟩ := hv
    have := p.back _ L t hV h
    simp only [this]
    rw [← e]
  · simp only [Prod.mk.injEq] at h
    obtain ⟨rfl, h2⟩ := h
    have := p.once l (pa (some l)).1 t hl (by rw [← h2])
    rw [hu]
    exact ⟨⟨rfl, this.1⟩, this.2⟩
theorem Pr.of {α : Type} {V W : α → Prop} {en : α → Ls} {pa : Ls → α × Ls} (p : Pr V en pa) (h : ∀ x, W x ↔ V x) : Pr W en pa :=
  ⟨fun x L t hx => p.back x L t ((h x).1 hx), fun l x t hl hp => ⟨(h x).2 (p.once l x t hl hp).1, (p.once l x t hl hp).2⟩, p.bad⟩
theorem pr_kd (k : Nat) (h : k = 0 ∨ k = 1 ∨ k = 2 ∨ k = 3 ∨ k = 4 ∨ k = 5 ∨ k = 6) : Pr (VK k) (eK k) (gK k) := by
  rcases h with rfl | rfl | rfl | rfl | rfl | rfl | rfl
  · exact pr_map pr_int vn (·.n) (fun _ => rfl)
  · exact pr_map pr_flag vn (·.n) (fun _ => rfl)
  · exact (pr_map pr_text vt (·.t) (fun _ => rfl)).of (fun v => by simp [VK])
  · exact pr_map (pr_row pr_rec) vr' (·.rs) (fun _ => rfl)
  · exact (pr_map (pr_row pr_text) vm (·.nm) (fun _ => rfl)).of (fun v => by simp [VK])
  · exact pr_map (pr_row pr_int) vc (·.ct) (fun _ => rfl)
  · exact pr_map (pr_row pr_bat) vb (·.bs) (fun _ => rfl)
/-- Is a field something? -/
def hasK (k : Nat) (v : Fv) : Bool := if k = 2 then !(v.t.size == 0) else if k = 3 then decide (0 < v.rs.length) else if k = 4 then decide (0 < v.nm.length) else if k = 5 then decide (0 < v.ct.length) else if k = 6 then decide (0 < v.bs.length) else !(v.n == 0)
theorem hasK_iff (k : Nat) (hk : k = 0 ∨ k = 1 ∨ k = 2 ∨ k = 3 ∨ k = 4 ∨ k = 5 ∨ k = 6) (v : Fv) (hv : VK k v) : hasK k v = false ↔ v = fz := by
  have nil : ∀ {α : Type} (l : List α), decide (0 < l.length) = false ↔ l = [] := fun l => by cases l <;> simp
  rcases hk with rfl | rfl | rfl | rfl | rfl | rfl | rfl
  · have e : v = vn v.n := hv.1
    show (!(v.n == 0)) = false ↔ _
    rw [e]
    simp [vn, fz]
  · have e : v = vn v.n := hv.1
    show (!(v.n == 0)) = false ↔ _
    rw [e]
    simp [vn, fz]
  · have e : v = vt v.t := hv
    show (!(v.t.size == 0)) = false ↔ _
    rw [e]
    simp only [vt, fz, Bool.not_eq_false', beq_iff_eq, Fv.mk.injEq, and_true, true_and]
    exact ⟨size_zero, fun h => by rw [h]; exact strN_nil0⟩
  · have e : v = vr' v.rs := hv.1
    show decide (0 < v.rs.length) = false ↔ _
    rw [e, nil]
    simp [vr', fz]
  · have e : v = vm v.nm := hv
    show decide (0 < v.nm.length) = false ↔ _
    rw [e, nil]
    simp [vm, fz]
  · have e : v = vc v.ct := hv.1
    show decide (0 < v.ct.length) = false ↔ _
    rw [e, nil]
    simp [vc, fz]
  · have e : v = vb v.bs := hv.1
    show decide (0 < v.bs.length) = false ↔ _
    rw [e, nil]
    simp [vb, fz]
/-- All fields, by their numbers. -/
abbrev Bd := Nat → Fv
def bdz : Bd := fun _ => fz
def setB (b : Bd) (f : Nat) (v : Fv) : Bd := fun g => if g = f then v else b g
def eFs (b : Bd) : List Nat → Ls
  | [] => some []
  | f :: r => oa (eK (kd f) (b f)) (eFs b r)
def gFs : List Nat → Bd → Ls → Bd × Ls
  | [], b, s => (b, s)
  | f :: r, b, s => gFs r (setB b f (gK (kd f) s).1) (gK (kd f) s).2
theorem gFs_back (b : Bd) (t : List Nat) : ∀ (row : List Nat) (b0 : Bd) (L : List Nat), (∀ f, f ∈ row → VK (kd f) (b f)) → eFs b row = some L → gFs row b0 (some (L ++ t)) = (fun g => if g ∈ row then b g else b0 g, some t) := by
  intro row
  induction row with
  | nil => intro b0 L _ h; simp [eFs] at h; subst h; simp [gFs]
  | cons f r ih =>
    intro b0 L hV h
    obtain ⟨A, C, eA, eC, rfl⟩ := oa_some h
    have h1 := (pr_kd (kd f) (kd_cases f)).back (b f) A (C ++ t) (hV f (by simp)) eA
    rw [List.append_assoc]
    simp only [gFs]
    rw [h1]
    simp only
    rw [ih (setB b0 f (b f)) C (fun g hg => hV g (by simp [hg])) eC]
    refine Prod.ext ?_ rfl
    funext g
    simp only [List.mem_cons, setB]
    by_cases hg : g ∈ r
    · simp [hg]
    · by_cases e : g = f
      · subst e; simp [hg]
      · simp [hg, e]
theorem gFs_bad : ∀ (row : List Nat) (b0 : Bd), (gFs row b0 none).2 = none := by
  intro row
  induction row with
  | nil => intro b0; rfl
  | cons f r ih =>
    intro b0
    simp only [gFs]
    rw [(pr_kd (kd f) (kd_cases f)).bad]
    exact ih _
theorem gFs_once : ∀ (row : List Nat) (b0 : Bd) (l : List Nat) (b1 : Bd) (t : List Nat), row.Nodup → Byt l → gFs row b0 (some l) = (b1, some t) →
    (∀ g, g ∉ row → b1 g = b0 g) ∧ (∀ f, f ∈ row → VK (kd f) (b1 f)) ∧ ∃ L, eFs b1 row = some L ∧ l = L ++ t := by
  intro row
  induction row with
  | nil =>
    intro b0 l b1 t _ _ h
    simp only [gFs, Prod.mk.injEq, Option.some.injEq] at h
    obtain ⟨rfl, rfl⟩ := h
    exact ⟨fun _ _ => rfl, by simp, [], rfl, rfl⟩
  | cons f r ih =>
    intro b0 l b1 t hn hl h
    simp only [gFs] at h
    rw [List.nodup_cons] at hn
    cases hg : gK (kd f) (some l) with
    | mk v s1 =>
      rw [hg] at h
      simp only at h
      cases s1 with
      | none =>
        have := gFs_bad r (setB b0 f v)
        rw [h] at this
        simp at this
      | some l1 =>
        obtain ⟨hv, A, eA, e1⟩ := (pr_kd (kd f) (kd_cases f)).once l v l1 hl hg
        obtain ⟨k1, k2, C, eC, e2⟩ := ih (setB b0 f v) l1 b1 t hn.2 (by rw [e1] at hl; exact hl.right) h
        have hf : b1 f = v := by rw [k1 f hn.1]; simp [setB]
        refine ⟨fun g hgr => ?_, fun g hgr => ?_, A ++ C, ?_, by rw [e1, e2]; simp⟩
        · simp only [List.mem_cons, not_or] at hgr
          rw [k1 g hgr.2]
          simp [setB, hgr.1]
        · rcases List.mem_cons.1 hgr with rfl | q
          · rw [hf]; exact hv
          · exact k2 g q
        · simp only [eFs, hf, eA, eC, oa]
/-- The table. -/
def rowQ (k : Int) : Option (List Nat) := if k = 1 then some [0, 3, 4, 5, 6, 7, 8] else if k = 2 then some [0] else if k = 3 then some [] else if k = 4 then some [0, 2, 9, 10, 11] else if k = 5 then some [0, 2, 12, 13] else if k = 6 then some [0, 2, 14] else if k = 7 then some [1, 0, 2, 12] else if k = 8 then some [1, 0, 2] else none
def rowA (k : Int) : Option (List Nat) := if k = 0 then some [] else if k = 1 then some [] else if k = 2 then some [] else if k = 3 then some [17, 18] else if k = 4 then some [12, 15, 16] else if k = 5 then some [15, 16, 19] else if k = 6 then some [12, 15, 16] else if k = 7 then some [] else if k = 8 then some [12] else none
def ansRow (k c : Int) : Option (List Nat) := if c = 0 then (if k = 0 then none else rowA k) else (rowA k).map fun _ => []
theorem rowQ_ok {k : Int} {r : List Nat} (h : rowQ k = some r) : r.Nodup ∧ (∀ f, f ∈ r → f < 20) := by
  unfold rowQ at h
  repeat' split at h
  all_goals first | (simp only [Option.some.injEq] at h; subst h; decide) | simp at h
theorem rowA_ok {k : Int} {r : List Nat} (h : rowA k = some r) : r.Nodup ∧ (∀ f, f ∈ r → f < 20) := by
  unfold rowA at h
  repeat' split at h
  all_goals first | (simp only [Option.some.injEq] at h; subst h; decide) | simp at h
theorem ansRow_ok {k c : Int} {r : List Nat} (h : ansRow k c = some r) : r.Nodup ∧ (∀ f, f ∈ r → f < 20) := by
  unfold ansRow at h
  split at h
  · split at h
    · simp at h
    · exact rowA_ok h
  · cases hr : rowA k with
    | none => rw [hr] at h; simp at h
    | some q => rw [hr] at h; simp at h; subst h; simp
/-- Is there a field that the row does not name? -/
def moreB (b : Bd) (row : List Nat) : Bool := (List.range 20).any fun f => hasK (kd f) (b f) && !row.contains f
/-- Only fields that may be. -/
def VB (b : Bd) : Prop := (∀ f, f < 20 → VK (kd f) (b f)) ∧ ∀ f, 20 ≤ f → b f = fz
theorem more_no {b : Bd} {row : List Nat} (hb : VB b) (h : moreB b row = false) : ∀ g, g ∉ row → b g = fz := by
  intro g hg
  by_cases h20 : g < 20
  · unfold moreB at h
    rw [List.any_eq_false] at h
    have := h g (by simpa using h20)
    simp only [Bool.and_eq_true, not_and, Bool.not_eq_true, Bool.not_eq_true', List.contains_eq_mem, decide_eq_false_iff_not] at this
    have hh : hasK (kd g) (b g) = false := by
      cases hq : hasK (kd g) (b g) with
      | false => rfl
      | true => exact absurd hg (by simpa using this hq)
    exact (hasK_iff _ (kd_cases g) _ (hb.1 g h20)).1 hh
  · exact hb.2 g (by omega)
theorem VK_fz (f : Nat) : VK (kd f) fz := by
  have h : In64 0 := ⟨by decide, by decide⟩
  rcases kd_cases f with e | e | e | e | e | e | e
  all_goals
    rw [e]
    simp [VK, vn, vt, vr', vm, vc, vb, fz, h]
theorem more_yes {b : Bd} {row : List Nat} (h : ∀ g, g ∉ row → b g = fz) : moreB b row = false := by
  unfold moreB
  rw [List.any_eq_false]
  intro g _
  simp only [Bool.and_eq_true, not_and, Bool.not_eq_true, List.contains_eq_mem]
  intro hh
  by_cases hg : g ∈ row
  · simp [hg]
  · rw [h g hg, (hasK_iff _ (kd_cases g) _ (VK_fz g)).2 rfl] at hh
    cases hh
/-- A message: numbers ahead, then fields. -/
def eNs : List Nat → List Int → Ls
  | n :: r, v :: s => oa (eNat n v) (eNs r s)
  | _, _ => some []
def gNs : List Nat → Ls → List Int × Ls
  | [], s => ([], s)
  | n :: r, s => ((gNat n s).1 :: (gNs r (gNat n s).2).1, (gNs r (gNat n s).2).2)
theorem gNs_back : ∀ (ns : List Nat) (vs : List Int) (L t : List Nat), vs.length = ns.length → eNs ns vs = some L → gNs ns (some (L ++ t)) = (vs, some t) := by
  intro ns
  induction ns with
  | nil => intro vs L t hl h; cases vs with
    | nil => simp [eNs] at h; subst h; simp [gNs]
    | cons _ _ => simp at hl
  | cons n r ih => intro vs L t hl h; cases vs with
    | nil => simp at hl
    | cons v s =>
      obtain ⟨A, C, eA, eC, rfl⟩ := oa_some h
      have h1 := (pr_nat n).back v A (C ++ t) trivial eA
      rw [List.append_assoc]
      simp only [gNs]
      rw [h1]
      simp only
      rw [ih s C t (by simpa using hl) eC]
theorem gNs_bad : ∀ (ns : List Nat), (gNs ns none).2 = none := by
  intro ns
  induction ns with
  | nil => rfl
  | cons n r ih => simp only [gNs]; exact ih
theorem gNs_once : ∀ (ns : List Nat) (l : List Nat) (vs : List Int) (t : List Nat), Byt l → gNs ns (some l) = (vs, some t) → vs.length = ns.length ∧ ∃ L, eNs ns vs = some L ∧ l = L ++ t := by
  intro ns
  induction ns with
  | nil =>
    intro l vs t _ h
    simp only [gNs, Prod.mk.injEq, Option.some.injEq] at h
    obtain ⟨rfl, rfl⟩ := h
    exact ⟨rfl, [], rfl, rfl⟩
  | cons n r ih =>
    intro l vs t hl h
    simp only [gNs] at h
    cases hg : gNat n (some l) with
    | mk v s1 =>
      rw [hg] at h
      simp only [Prod.mk.injEq] at h
      obtain ⟨rfl, h2⟩ := h
      cases s1 with
      | none => rw [gNs_bad] at h2; simp at h2
      | some l1 =>
        obtain ⟨_, A, eA, e1⟩ := (pr_nat n).once l v l1 hl hg
        obtain ⟨k1, C, eC, e2⟩ := ih l1 (gNs r (some l1)).1 t (by rw [e1] at hl; exact hl.right) (by rw [← h2])
        refine ⟨by simp [k1], A ++ C, by simp only [eNs, eA, eC, oa], by rw [e1, e2]; simp⟩
/-- A request's bytes, and a response's. -/
def msgE (ns : List Nat) (vs : List Int) (row : Option (List Nat)) (b : Bd) : Ls :=
  match row with
  | some r => if moreB b r = true then none else oa (eNs ns vs) (eFs b r)
  | none => none
def reqE (k i : Int) (b : Bd) : Ls := msgE [1, 4] [k, i] (rowQ k) b
def resE (k i c : Int) (b : Bd) : Ls := msgE [1, 4, 1] [k, i, c] (ansRow k c) b
def rowOr (r : Option (List Nat)) : List Nat := r.getD []
def reqS (l : List Nat) : (Int × Int × Bd) × Ls :=
  let k := gNat 1 (some l)
  let i := gNat 4 k.2
  let b := gFs (rowOr (rowQ k.1)) bdz i.2
  ((k.1, i.1, b.1), b.2)
def reqP (l : List Nat) : Option (Int × Int × Bd) := if (rowQ (reqS l).1.1).isSome = true ∧ (reqS l).2 = some [] then some (reqS l).1 else none
def resS (l : List Nat) : (Int × Int × Int × Bd) × Ls :=
  let k := gNat 1 (some l)
  let i := gNat 4 k.2
  let c := gNat 1 i.2
  let b := gFs (rowOr (ansRow k.1 c.1)) bdz c.2
  ((k.1, i.1, c.1, b.1), b.2)
def resP (l : List Nat) : Option (Int × Int × Int × Bd) := if (ansRow (resS l).1.1 (resS l).1.2.2.1).isSome = true ∧ (resS l).2 = some [] then some (resS l).1 else none
theorem mix_all {b : Bd} {row : List Nat} (h : ∀ g, g ∉ row → b g = fz) : (fun g => if g ∈ row then b g else bdz g) = b := by
  funext g
  by_cases hg : g ∈ row
  · simp [hg]
  · simp [hg, bdz, h g hg]
theorem req_back {k i : Int} {b : Bd} {L : List Nat} (t : List Nat) (hb : VB b) (h : reqE k i b = some L) : reqS (L ++ t) = ((k, i, b), some t) ∧ (rowQ k).isSome = true := by
  unfold reqE msgE at h
  cases hr : rowQ k with
  | none => rw [hr] at h; simp at h
  | some row =>
    rw [hr] at h
    simp only at h
    split at h
    · simp at h
    · rename_i hm
      obtain ⟨A, C, eA, eC, rfl⟩ := oa_some h
      obtain ⟨A1, A2, e1, e2, rfl⟩ := oa_some eA
      obtain ⟨A3, A4, e3, e4, rfl⟩ := oa_some e2
      simp [eNs] at e4
      subst e4
      refine ⟨?_, rfl⟩
      unfold reqS
      simp only [List.append_assoc, List.nil_append]
      rw [(pr_nat 1).back k A1 _ trivial e1]
      simp only
      rw [(pr_nat 4).back i A3 _ trivial e3]
      simp only
      rw [hr]
      simp only [rowOr, Option.getD_some]
      rw [gFs_back b t row bdz C (fun f hf => hb.1 f ((rowQ_ok hr).2 f hf)) eC, mix_all (more_no hb (by simpa using hm))]
theorem req_once {l : List Nat} {k i : Int} {b : Bd} (hl : Byt l) {t : List Nat} (h : reqS l = ((k, i, b), some t)) (hr : (rowQ k).isSome = true) : VB b ∧ ∃ L, reqE k i b = some L ∧ l = L ++ t := by
  unfold reqS at h
  simp only [Prod.mk.injEq] at h
  obtain ⟨⟨h1, h2, h3⟩, h4⟩ := h
  cases g1 : gNat 1 (some l) with
  | mk k' s1 =>
    rw [g1] at h1 h2 h3 h4
    simp only at h1 h2 h3 h4
    subst h1
    cases s1 with
    | none => rw [show (gNat 4 none).2 = none from rfl, gFs_bad] at h4; simp at h4
    | some l1 =>
      obtain ⟨_, A1, e1, q1⟩ := (pr_nat 1).once l k' l1 hl g1
      have hl1 : Byt l1 := by rw [q1] at hl; exact hl.right
      cases g2 : gNat 4 (some l1) with
      | mk i' s2 =>
        rw [g2] at h2 h3 h4
        simp only at h2 h3 h4
        subst h2
        cases s2 with
        | none => rw [gFs_bad] at h4; simp at h4
        | some l2 =>
          obtain ⟨_, A2, e2, q2⟩ := (pr_nat 4).once l1 i' l2 hl1 g2
          have hl2 : Byt l2 := by rw [q2] at hl1; exact hl1.right
          obtain ⟨row, hrow⟩ := Option.isSome_iff_exists.1 hr
          rw [hrow] at h3 h4
          simp only [rowOr, Option.getD_some] at h3 h4
          obtain ⟨ok1, ok2⟩ := rowQ_ok hrow
          obtain ⟨m1, m2, C, eC, q3⟩ := gFs_once row bdz l2 b t ok1 hl2 (Prod.ext h3 h4)
          have hz : ∀ g, g ∉ row → b g = fz := m1
          refine ⟨⟨fun f _ => ?_, fun f hf => hz f (fun hm => by have := ok2 f hm; omega)⟩, A1 ++ (A2 ++ C), ?_, by rw [q1, q2, q3]; simp⟩
          · by_cases hf : f ∈ row
            · exact m2 f hf
            · rw [hz f hf]; exact VK_fz f
          · unfold reqE msgE
            rw [hrow]
            simp only
            rw [if_neg (by rw [more_yes hz]; simp), eC]
            simp only [eNs, e1, e2, oa, List.append_nil, List.append_assoc]
theorem res_back {k i c : Int} {b : Bd} {L : List Nat} (t : List Nat) (hb : VB b) (h : resE k i c b = some L) : resS (L ++ t) = ((k, i, c, b), some t) ∧ (ansRow k c).isSome = true := by
  unfold resE msgE at h
  cases hr : ansRow k c with
  | none => rw [hr] at h; simp at h
  | some row =>
    rw [hr] at h
    simp only at h
    split at h
    · simp at h
    · rename_i hm
      obtain ⟨A, C, eA, eC, rfl⟩ := oa_some h
      obtain ⟨A1, A2, e1, e2, rfl⟩ := oa_some eA
      obtain ⟨A3, A4, e3, e4, rfl⟩ := oa_some e2
      obtain ⟨A5, A6, e5, e6, rfl⟩ := oa_some e4
      simp [eNs] at e6
      subst e6
      refine ⟨?_, rfl⟩
      unfold resS
      simp only [List.append_assoc, List.nil_append]
      rw [(pr_nat 1).back k A1 _ trivial e1]
      simp only
      rw [(pr_nat 4).back i A3 _ trivial e3]
      simp only
      rw [(pr_nat 1).back c A5 _ trivial e5]
      simp only
      rw [hr]
      simp only [rowOr, Option.getD_some]
      rw [gFs_back b t row bdz C (fun f hf => hb.1 f ((ansRow_ok hr).2 f hf)) eC, mix_all (more_no hb (by simpa using hm))]
theorem res_once {l : List Nat} {k i c : Int} {b : Bd} (hl : Byt l) {t : List Nat} (h : resS l = ((k, i, c, b), some t)) (hr : (ansRow k c).isSome = true) : VB b ∧ ∃ L, resE k i c b = some L ∧ l = L ++ t := by
  unfold resS at h
  simp only [Prod.mk.injEq] at h
  obtain ⟨⟨h1, h2, h5, h3⟩, h4⟩ := h
  cases g1 : gNat 1 (some l) with
  | mk k' s1 =>
    rw [g1] at h1 h2 h3 h4 h5
    simp only at h1 h2 h3 h4 h5
    subst h1
    cases s1 with
    | none => rw [show (gNat 4 none).2 = none from rfl, show (gNat 1 none).2 = none from rfl, gFs_bad] at h4; simp at h4
    | some l1 =>
      obtain ⟨_, A1, e1, q1⟩ := (pr_nat 1).once l k' l1 hl g1
      have hl1 : Byt l1 := by rw [q1] at hl; exact hl.right
      cases g2 : gNat 4 (some l1) with
      | mk i' s2 =>
        rw [g2] at h2 h3 h4 h5
        simp only at h2 h3 h4 h5
        subst h2
        cases s2 with
        | none => rw [show (gNat 1 none).2 = none from rfl, gFs_bad] at h4; simp at h4
        | some l2 =>
          obtain ⟨_, A2, e2, q2⟩ := (pr_nat 4).once l1 i' l2 hl1 g2
          have hl2 : Byt l2 := by rw [q2] at hl1; exact hl1.right
          cases g3 : gNat 1 (some l2) with
          | mk c' s3 =>
            rw [g3] at h3 h4 h5
            simp only at h3 h4 h5
            subst h5
            cases s3 with
            | none => rw [gFs_bad] at h4; simp at h4
            | some l3 =>
              obtain ⟨_, A3, e3, q4⟩ := (pr_nat 1).once l2 c' l3 hl2 g3
              have hl3 : Byt l3 := by rw [q4] at hl2; exact hl2.right
              obtain ⟨row, hrow⟩ := Option.isSome_iff_exists.1 hr
              rw [hrow] at h3 h4
              simp only [rowOr, Option.getD_some] at h3 h4
              obtain ⟨ok1, ok2⟩ := ansRow_ok hrow
              obtain ⟨m1, m2, C, eC, q3⟩ := gFs_once row bdz l3 b t ok1 hl3 (Prod.ext h3 h4)
              have hz : ∀ g, g ∉ row → b g = fz := m1
              refine ⟨⟨fun f _ => ?_, fun f hf => hz f (fun hm => by have := ok2 f hm; omega)⟩, A1 ++ (A2 ++ (A3 ++ C)), ?_, by rw [q1, q2, q4, q3]; simp⟩
              · by_cases hf : f ∈ row
                · exact m2 f hf
                · rw [hz f hf]; exact VK_fz f
              · unfold resE msgE
                rw [hrow]
                simp only
                rw [if_neg (by rw [more_yes hz]; simp), eC]
                simp only [eNs, e1, e2, e3, oa, List.append_nil, List.append_assoc]
/-- What is parsed. -/
theorem reqP_some {l : List Nat} {k i : Int} {b : Bd} (h : reqP l = some (k, i, b)) : reqS l = ((k, i, b), some []) ∧ (rowQ k).isSome = true := by
  unfold reqP at h
  split at h
  · rename_i hc
    simp only [Option.some.injEq] at h
    rw [h] at hc
    exact ⟨Prod.ext h hc.2, hc.1⟩
  · simp at h
theorem reqP_of {l : List Nat} {k i : Int} {b : Bd} (h : reqS l = ((k, i, b), some [])) (hr : (rowQ k).isSome = true) : reqP l = some (k, i, b) := by
  unfold reqP
  rw [h]
  simp [hr]
theorem resP_some {l : List Nat} {k i c : Int} {b : Bd} (h : resP l = some (k, i, c, b)) : resS l = ((k, i, c, b), some []) ∧ (ansRow k c).isSome = true := by
  unfold resP at h
  split at h
  · rename_i hc
    simp only [Option.some.injEq] at h
    rw [h] at hc
    exact ⟨Prod.ext h hc.2, hc.1⟩
  · simp at h
theorem resP_of {l : List Nat} {k i c : Int} {b : Bd} (h : resS l = ((k, i, c, b), some [])) (hr : (ansRow k c).isSome = true) : resP l = some (k, i, c, b) := by
  unfold resP
  rw [h]
  simp [hr]
/-- What is written is parsed as it was, and with more, or less, it is none. -/
theorem reqP_back {k i : Int} {b : Bd} {L : List Nat} (hb : VB b) (h : reqE k i b = some L) : reqP L = some (k, i, b) := by
  obtain ⟨h1, h2⟩ := req_back [] hb h
  rw [List.append_nil] at h1
  exact reqP_of h1 h2
theorem reqP_once {l : List Nat} {k i : Int} {b : Bd} (hl : Byt l) (h : reqP l = some (k, i, b)) : VB b ∧ reqE k i b = some l := by
  obtain ⟨h1, h2⟩ := reqP_some h
  obtain ⟨h3, L, e, q⟩ := req_once hl h1 h2
  rw [List.append_nil] at q
  exact ⟨h3, by rw [q]; exact e⟩
theorem reqP_more {k i : Int} {b : Bd} {L : List Nat} (hb : VB b) (h : reqE k i b = some L) (t : List Nat) (ht : t ≠ []) : reqP (L ++ t) = none := by
  obtain ⟨h1, h2⟩ := req_back t hb h
  unfold reqP
  rw [h1]
  simp [ht]
theorem reqP_cut {k i : Int} {b : Bd} {L : List Nat} (hL : Byt L) (hb : VB b) (h : reqE k i b = some L) (n : Nat) (hn : n < L.length) : reqP (L.take n) = none := by
  cases hp : reqP (L.take n) with
  | none => rfl
  | some r =>
    obtain ⟨k', i', b'⟩ := r
    have hT : Byt (L.take n) := fun c hc => hL c (List.mem_of_mem_take hc)
    obtain ⟨v, e⟩ := reqP_once hT hp
    have h2 := reqP_more v e (L.drop n) (fun c => by have := congrArg List.length c; simp at this; omega)
    rw [List.take_append_drop, reqP_back hb h] at h2
    cases h2
theorem resP_back {k i c : Int} {b : Bd} {L : List Nat} (hb : VB b) (h : resE k i c b = some L) : resP L = some (k, i, c, b) := by
  obtain ⟨h1, h2⟩ := res_back [] hb h
  rw [List.append_nil] at h1
  exact resP_of h1 h2
theorem resP_once {l : List Nat} {k i c : Int} {b : Bd} (hl : Byt l) (h : resP l = some (k, i, c, b)) : VB b ∧ resE k i c b = some l := by
  obtain ⟨h1, h2⟩ := resP_some h
  obtain ⟨h3, L, e, q⟩ := res_once hl h1 h2
  rw [List.append_nil] at q
  exact ⟨h3, by rw [q]; exact e⟩
theorem resP_more {k i c : Int} {b : Bd} {L : List Nat} (hb : VB b) (h : resE k i c b = some L) (t : List Nat) (ht : t ≠ []) : resP (L ++ t) = none := by
  obtain ⟨h1, h2⟩ := res_back t hb h
  unfold resP
  rw [h1]
  simp [ht]
end Go.Proofs.YtaooidckmepdeaaDoor
namespace Go.Proofs.YtaooidckmepdeaaDoor
set_option linter.unusedSimpArgs false
set_option linter.unusedVariables false
open Go.RowKit
def fitsB (len : Nat) (at' size : Int) : Bool := decide (1 ≤ size ∧ size ≤ 8 ∧ 0 ≤ at' ∧ at' ≤ len - size)
theorem fits_any (a : Option Addr) (len cap : Nat) (at' size : Int) (w : World) (hl : len ≤ maxLen) :
    Calls Tryd.prog 78 #[.slice a len cap, .int .i64 at', .int .i64 size] w fun e w' => e = .returned (.bool (fitsB len at' size)) ∧ w' = w := by
  unfold maxLen at hl
  by_cases h1 : 1 ≤ size
  · by_cases h2 : size ≤ 8
    · by_cases h3 : 0 ≤ at'
      · by_cases h4 : at' ≤ len - size
        all_goals
          go_enter Tryd.func78, Tryd.ntmps78
          go_wp2
          go_ret
          simp [fitsB, h1, h2, h3, h4]
      · go_enter Tryd.func78, Tryd.ntmps78
        go_wp2
        go_ret
        simp [fitsB]
        omega
    · go_enter Tryd.func78, Tryd.ntmps78
      go_wp2
      go_ret
      simp [fitsB]
      omega
  · go_enter Tryd.func78, Tryd.ntmps78
    go_wp2
    go_ret
    simp [fitsB]
    omega
def placeI (i size : Int) (big : Bool) : Int := if big then size - 1 - i else i
theorem place_any (i size : Int) (big : Bool) (w : World) (h0 : 0 ≤ i) (h1 : i < size) (h2 : size ≤ 8) :
    Calls Tryd.prog 80 #[.int .i64 i, .int .i64 size, .bool big] w fun e w' => e = .returned (.int .i64 (placeI i size big)) ∧ w' = w := by
  cases big
  all_goals
    go_enter Tryd.func80, Tryd.ntmps80
    go_wp2
    go_ret
    exact ⟨rfl, rfl⟩
theorem p256 (n : Nat) (h : n ≤ 8) : (256 : Nat) ^ n ≤ 18446744073709551616 := by
  have := Nat.pow_le_pow_right (n := 256) (by decide) h
  omega
theorem or_step (V c i : Nat) (hi : i < 8) (hV : V < 256 ^ i) (hc : c < 256) : bits .or .u64 (V : Int) (IntKind.u64.wrap ((c : Int) * 2 ^ (8 * i))) = ((V + c * 256 ^ i : Nat) : Int) := by
  have h1 : c * 256 ^ i ≤ 255 * 256 ^ i := Nat.mul_le_mul_right _ (by omega)
  have h2 := p256 (i + 1) (by omega)
  rw [Nat.pow_succ] at h2
  have e : ((c : Int) * 2 ^ (8 * i)) = ((c * 256 ^ i : Nat) : Int) := by
    have : (256 : Nat) ^ i = 2 ^ (8 * i) := by rw [Nat.pow_mul]
    rw [this]; simp
  rw [e, wu64 _ (by omega) (by omega), u64_or_nat _ _ (by omega) (by omega), Nat.or_comm, nat_join (8 * i) _ _ ?_ ?_, Nat.add_comm]
  · rw [Nat.pow_mul]; exact Nat.mul_mod_left _ _
  · rw [Nat.pow_mul]; exact hV
theorem get_yes (a : Option Addr) (cap : Nat) (l : List Nat) (p size : Nat) (big : Bool) (w : World) (hr : Row w a l) (hl : l.length ≤ maxLen) (h1 : 1 ≤ size) (h2 : size ≤ 8) (h3 : p + size ≤ l.length) :
    Calls Tryd.prog 67 #[.slice a l.length cap, .int .i64 p, .int .i64 size, .bool big] w fun e w' => e = .returned (.tuple #[.int .u64 (getV l p size big : Nat), .bool true]) ∧ w' = w := by
  have hf : fitsB l.length p size = true := by simp [fitsB]; omega
  have hl0 := hl
  unfold maxLen at hl
  obtain ⟨f, HF⟩ : ∃ f, Hid (f = (fun j => l.getD (p + plc size big j) 0)) := ⟨_, rfl⟩
  have HG : Hid (getV l p size big = sm f size) := by show _ = _; rw [HF.out]; rfl
  have hf256 : ∀ j, f j < 256 := by intro j; rw [HF.out]; exact hr.lt _
  go_enter Tryd.func67, Tryd.ntmps67
  go_wp2_with (go_at_call 78; refine (fits_any _ _ _ _ _ _ hl0).mono ?_; rintro e w' ⟨rfl, rfl⟩; rw [hf])
  go_loop [8, 17] (fun v i => ∃ k : Nat, k ≤ size ∧ i = .int .i64 k ∧ v = .int .u64 (sm f k : Nat)) (fun _ i => size - (intOf i).toNat)
  case atStart => exact ⟨0, by omega, rfl, rfl⟩
  case round =>
    obtain ⟨k, hk, rfl, rfl⟩ := hrel
    by_cases hlt : k < size
    · have hpl : plc size big k < size := by unfold plc; split <;> omega
      obtain ⟨b, off, rfl, hc, hlt2⟩ := hr (p + plc size big k) (by omega)
      have HS : Hid (bits .or .u64 (sm f k : Nat) (IntKind.u64.wrap ((l.getD (p + plc size big k) 0 : Nat) * 2 ^ (8 * k))) = ((sm f (k + 1) : Nat) : Int)) := by
        show _ = _
        rw [or_step _ _ k (by omega) (sm_lt f hf256 k) (hr.lt _)]
        simp only [sm]
        rw [HF.out]
      have hpi : placeI k size big = (plc size big k : Nat) := by
        unfold placeI plc; cases big
        · simp
        · simp; omega
      generalize l.getD (p + plc size big k) 0 = c at *
      generalize plc size big k = q at *
      clear hr hf256
      have hltq : ((p : Int) + q) < (l.length : Int) := by omega
      go_wp2_with (go_at_call 80; refine (place_any _ _ _ _ (by omega) (by omega) (by omega)).mono ?_; rintro e w' ⟨rfl, rfl⟩; rw [hpi])
      exact ⟨⟨k + 1, by omega, by go_num, by rw [HS.out]⟩, by simp [intOf]; omega⟩
    · go_wp2
      go_ret2
      have : k = size := by omega
      subst this
      exact ⟨by rw [HG.out]; rfl, rfl⟩
set_option maxRecDepth 100000 in
theorem clone_any (a : Option Addr) (cap : Nat) (l : List Nat) (w : World) (hr : Row w a l) (hl : l.length ≤ 1000000) :
    Calls Tryd.prog 79 #[.slice a l.length cap] w fun e w' => (∃ g, e = .returned (.slice (some ⟨g, 0, none⟩) l.length l.length) ∧ Own w.heap.size w' g l.length l) ∧ Below w.heap.size w w' := by
  obtain ⟨i0, hi, hz0, hz1, hz2⟩ := info_parts Tryd.info5
  have hs1 : (Tryd.prog.info? 5).map (·.size) = some 1 := by rw [hi]; simp [hz1]
  obtain ⟨n, HN⟩ : ∃ n, Hid (l.length = n) := ⟨_, rfl⟩
  have hn : n ≤ 1000000 := by rw [← HN.out]; exact hl
  have HC : Hid ((cv l).length = n) := by show _ = _; rw [cv_length, HN.out]
  rw [HN.out]
  go_enter Tryd.func79, Tryd.ntmps79
  go_wp2_with (first
    | (at_make; refine wpList_make_full _ rfl _ _ 29 rfl w.heap.size 5 i0 (.int .u8 0) 1 Tryd.underlying29 hi hz0 hz1 .i64 .i64 _ _ n rfl rfl rfl rfl (by rw [hz2]; omega) (by unfold maxLen; omega) (Nat.le_refl _) ?_; intro w1 hown hg; obtain ⟨cur, hcur, hlen⟩ := made_blk hown; have hbel := below_made hg; have HR1 := hr.below hbel; have HLn : Hid (cur.length = n) := hlen; clear hlen hown hg hr)
    | (have _t := hcur; refine wpList_copy_splice rfl (.tmp 7) (.tmp 8) 29 29 rfl 5 Tryd.underlying29 hs1 _ _ _ _ _ _ rfl rfl w.heap.size 0 cur 5 hcur (cv l) (by rw [HC.out]; exact (Nat.min_self n).symm) (fun h0 => ⟨rfl, row_src HR1 h0⟩) (by rw [HC.out, HLn.out]; omega) (cv_one _) w.heap.size w hbel (Nat.le_refl _) ?_; intro w2 HG2 hB2))
  go_ret
  refine ⟨⟨w.heap.size, rfl, ?_⟩, by assumption⟩
  have HG : Hid _ := HG2
  have h2 := HG2.out
  rw [splice_all _ _ (by rw [HC.out, HLn.out])] at h2
  have := own_of (Nat.le_refl _) HN.out.symm (by unfold maxLen; omega) rfl h2
  exact this
/-- Behind k rounds. -/
structure PutAt (l : List Nat) (p size : Nat) (big : Bool) (V k : Nat) (cur : List Nat) : Prop where
  len : cur.length = l.length
  at' : ∀ i, i < l.length → cur.getD i 0 = if p ≤ i ∧ i < p + size ∧ plc size big (i - p) < k then V / 256 ^ plc size big (i - p) % 256 else l.getD i 0
theorem PutAt.start (l : List Nat) (p size : Nat) (big : Bool) (V : Nat) : PutAt l p size big V 0 l := ⟨rfl, fun i hi => by simp⟩
theorem plc_lt (size : Nat) (big : Bool) (k : Nat) (h : k < size) : plc size big k < size := by unfold plc; split <;> omega
theorem plc_plc (size : Nat) (big : Bool) (k : Nat) (h : k < size) : plc size big (plc size big k) = k := by unfold plc; split <;> omega
theorem PutAt.step {l : List Nat} {p size : Nat} {big : Bool} {V k : Nat} {cur : List Nat} (h : PutAt l p size big V k cur) (hk : k < size) (hp : p + size ≤ l.length) :
    PutAt l p size big V (k + 1) (cur.set (p + plc size big k) (V / 256 ^ k % 256)) := by
  have h1 := plc_lt size big k hk
  have h2 := plc_plc size big k hk
  refine ⟨by simp [h.len], fun i hi => ?_⟩
  rw [getD_set _ _ _ _ (by rw [h.len]; exact hi), h.at' i hi]
  by_cases e : p + plc size big k = i
  · subst e
    rw [if_pos rfl, Nat.add_sub_cancel_left, h2, if_pos (by omega)]
  · rw [if_neg e]
    by_cases hin : p ≤ i ∧ i < p + size
    · have h3 := plc_plc size big (i - p) (by omega)
      have h4 : plc size big (i - p) ≠ k := by
        intro c; rw [c] at h3; omega
      by_cases h5 : plc size big (i - p) < k
      · rw [if_pos (by omega), if_pos (by omega)]
      · rw [if_neg (by omega), if_neg (by omega)]
    · rw [if_neg (by omega), if_neg (by omega)]
theorem PutAt.done {l : List Nat} {p size : Nat} {big : Bool} {V : Nat} {cur : List Nat} (h : PutAt l p size big V size cur) : cur = putL l p size big V := by
  apply list_ext (by rw [h.len, putL_length])
  intro i hi
  rw [h.len] at hi
  rw [h.at' i hi, putL_get _ _ _ _ _ _ hi]
  by_cases hin : p ≤ i ∧ i < p + size
  · rw [if_pos ⟨hin.1, hin.2, plc_lt size big _ (by omega)⟩, if_pos hin]
  · rw [if_neg (by omega), if_neg hin]
theorem byte_at (V k : Nat) : (V : Int) / 2 ^ (8 * k) % 256 = ((V / 256 ^ k % 256 : Nat) : Int) := by
  have e : (256 : Nat) ^ k = 2 ^ (8 * k) := by rw [Nat.pow_mul]
  rw [e]
  simp
set_option maxRecDepth 100000 in
set_option maxHeartbeats 800000 in
theorem put_yes (a : Option Addr) (cap : Nat) (l : List Nat) (p size : Nat) (big : Bool) (V : Nat) (w : World) (hr : Row w a l) (hl : l.length ≤ 1000000) (h1 : 1 ≤ size) (h2 : size ≤ 8) (h3 : p + size ≤ l.length) (hV : V ≤ 18446744073709551615) :
    Calls Tryd.prog 52 #[.slice a l.length cap, .int .i64 p, .int .i64 size, .bool big, .int .u64 V] w fun e w' =>
      (∃ g, e = .returned (.tuple #[.slice (some ⟨g, 0, none⟩) l.length l.length, .bool true]) ∧ Own w.heap.size w' g l.length (putL l p size big V)) ∧ Below w.heap.size w w' := by
  have hf : fitsB l.length p size = true := by simp [fitsB]; omega
  have hl0 : l.length ≤ maxLen := by unfold maxLen; omega
  go_enter Tryd.func52, Tryd.ntmps52
  go_wp2_with (go_at_call 78; refine (fits_any _ _ _ _ _ _ hl0).mono ?_; rintro e w' ⟨rfl, rfl⟩; rw [hf])
  refine (clone_any a cap l _ hr hl).mono ?_
  rintro e w1 ⟨⟨g, rfl, hown⟩, hbel⟩
  go_wp2_with fail
  go_loopw [21] (fun i wr => ∃ (k : Nat) (cur : List Nat), k ≤ size ∧ i = .int .i64 k ∧ PutAt l p size big V k cur ∧ Own _ wr g l.length cur ∧ Below _ _ wr) (fun i _ => size - (intOf i).toNat)
  case atStart => exact ⟨0, l, by omega, rfl, PutAt.start _ _ _ _ _, hown, hbel⟩
  case round =>
    obtain ⟨k, cur, hk, rfl, hat, hown, hbel⟩ := hrel
    clear hr
    by_cases hlt : k < size
    · have hpl := plc_lt size big k hlt
      have HN : Hid (PutAt l p size big V (k + 1) (cur.set (p + plc size big k) (V / 256 ^ k % 256))) := hat.step hlt h3
      have hcell := hown.cell (p + plc size big k) (by rw [hat.len]; omega)
      have hfree := hown.free (p + plc size big k)
      have hge := hown.ge
      have hpi : placeI k size big = (plc size big k : Nat) := by
        unfold placeI plc; cases big
        · simp
        · simp; omega
      have hby := byte_at V k
      generalize plc size big k = q at *
      generalize cur.getD (p + q) 0 = c0 at *
      have hltq : ((p : Int) + q) < (l.length : Int) := by omega
      clear hat
      have x1 : IntKind.i64.wrap (8 * (k : Int)) = 8 * (k : Int) := by rw [IntKind.wrap_i64]; omega
      have x2 : IntKind.i64.wrap ((p : Int) + (q : Int)) = (p : Int) + q := by rw [IntKind.wrap_i64]; omega
      have x3 : (0 : Int) ≤ 8 * (k : Int) := by omega
      have x4 : 8 * (k : Int) ≤ 64 := by omega
      have x5 : (8 * (k : Int)).toNat = 8 * k := by omega
      have x6 : ((p : Int) + (q : Int)).toNat = p + q := by omega
      have x7 : (0 : Int) ≤ (p : Int) + q := by omega
      have x8 : IntKind.u8.wrap ((V : Int) / 2 ^ (8 * k)) = ((V / 256 ^ k % 256 : Nat) : Int) := by rw [IntKind.wrap_u8, hby]
      clear hby
      generalize V / 256 ^ k % 256 = d at *
      go_wp2_with fail
      go_region_with (go_at_call 80; refine (place_any _ _ _ _ (by omega) (by omega) (by omega)).mono ?_; rintro e w' ⟨rfl, rfl⟩; rw [hpi])
      all_goals go_wp2
      exact ⟨⟨k + 1, cur.set (p + q) d, by omega, by go_num, HN.out, hown.store _ _, (hbel.setCell hge.1 _).drew⟩, by simp [intOf]; omega⟩
    · obtain rfl : k = size := by omega
      have HD : Hid (cur = putL l p k big V) := hat.done
      clear hat
      go_wp2
      go_ret2
      exact ⟨⟨g, rfl, by rw [← HD.out]; exact hown⟩, hbel⟩
end Go.Proofs.YtaooidckmepdeaaDoor
