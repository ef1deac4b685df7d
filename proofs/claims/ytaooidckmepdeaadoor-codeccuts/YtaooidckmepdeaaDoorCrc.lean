/- CRC-32C on plain numbers, without a walk: one bit on, one byte on, linear, one to one. -/
namespace Go.Proofs.YtaooidckmepdeaaDoor.P
set_option linter.unusedSimpArgs false
set_option linter.unusedVariables false
/-- One bit on. -/
def sh (c : Nat) : Nat := if c % 2 = 1 then c / 2 ^^^ 2197175160 else c / 2
def shN : Nat → Nat → Nat
  | 0, c => c
  | n + 1, c => shN n (sh c)
/-- One byte more. -/
def stp (c x : Nat) : Nat := shN 8 (c ^^^ x)
def reg (c : Nat) (l : List Nat) : Nat := l.foldl stp c
def ones : Nat := 4294967295
def more (c : Nat) (l : List Nat) : Nat := ones ^^^ reg (ones ^^^ c) l
def sum (l : List Nat) : Nat := more 0 l
theorem xor_half (a b : Nat) : (a ^^^ b) / 2 = a / 2 ^^^ b / 2 := by
  have := Nat.shiftRight_xor_distrib (a := a) (b := b) (i := 1)
  simpa [Nat.shiftRight_eq_div_pow] using this
theorem xor_par (a b : Nat) : (a ^^^ b) % 2 = (a % 2 + b % 2) % 2 := by
  have := Nat.testBit_xor a b 0
  simp only [Nat.testBit_zero] at this
  rcases Nat.mod_two_eq_zero_or_one a with h1 | h1 <;> rcases Nat.mod_two_eq_zero_or_one b with h2 | h2 <;> rcases Nat.mod_two_eq_zero_or_one (a ^^^ b) with h3 | h3 <;> simp [h1, h2, h3] at this ⊢
theorem sh_zero : sh 0 = 0 := by decide
theorem sh_xor (a b : Nat) : sh (a ^^^ b) = sh a ^^^ sh b := by
  unfold sh
  rw [xor_half, xor_par]
  rcases Nat.mod_two_eq_zero_or_one a with h1 | h1 <;> rcases Nat.mod_two_eq_zero_or_one b with h2 | h2 <;> simp [h1, h2]
  · rw [Nat.xor_assoc]
  · rw [Nat.xor_assoc, Nat.xor_comm (b / 2), ← Nat.xor_assoc]
  · rw [Nat.xor_assoc, Nat.xor_comm (b / 2), ← Nat.xor_assoc 2197175160, Nat.xor_self, Nat.zero_xor]
theorem sh_lt (c : Nat) (h : c < 4294967296) : sh c < 4294967296 := by
  unfold sh
  split
  · exact Nat.xor_lt_two_pow (n := 32) (by omega) (by omega)
  · omega
theorem sh_inj0 (c : Nat) (h : c < 4294967296) (h0 : sh c = 0) : c = 0 := by
  unfold sh at h0
  split at h0
  · have : c / 2 = 2197175160 := by
      have := congrArg (· ^^^ 2197175160) h0
      simpa [Nat.xor_assoc] using this
    omega
  · omega
theorem shN_zero (n : Nat) : shN n 0 = 0 := by
  induction n with
  | zero => rfl
  | succ n ih => simp [shN, sh_zero, ih]
theorem shN_xor (n a b : Nat) : shN n (a ^^^ b) = shN n a ^^^ shN n b := by
  induction n generalizing a b with
  | zero => rfl
  | succ n ih => simp [shN, sh_xor, ih]
theorem shN_lt (n c : Nat) (h : c < 4294967296) : shN n c < 4294967296 := by
  induction n generalizing c with
  | zero => exact h
  | succ n ih => exact ih _ (sh_lt c h)
theorem shN_inj0 (n c : Nat) (h : c < 4294967296) (h0 : shN n c = 0) : c = 0 := by
  induction n generalizing c with
  | zero => exact h0
  | succ n ih => exact sh_inj0 c h (ih _ (sh_lt c h) h0)
theorem shN_add (m n c : Nat) : shN (m + n) c = shN n (shN m c) := by
  induction m generalizing c with
  | zero => simp [shN]
  | succ m ih => rw [Nat.succ_add]; simp [shN, ih]
theorem sh_even (y : Nat) : sh (2 * y) = y := by unfold sh; rw [if_neg (by omega)]; omega
theorem shN_pow (n y : Nat) : shN n (2 ^ n * y) = y := by
  induction n generalizing y with
  | zero => simp [shN]
  | succ n ih => rw [shN, Nat.pow_succ, Nat.mul_comm (2 ^ n), Nat.mul_assoc, sh_even, ih]
theorem stp_xor (c d x y : Nat) : stp (c ^^^ d) (x ^^^ y) = stp c x ^^^ stp d y := by
  unfold stp
  rw [← shN_xor]
  congr 1
  rw [Nat.xor_assoc, ← Nat.xor_assoc d, Nat.xor_comm d x, Nat.xor_assoc x, ← Nat.xor_assoc]
theorem stp_lt (c x : Nat) (h : c < 4294967296) (hx : x < 256) : stp c x < 4294967296 := shN_lt _ _ (Nat.xor_lt_two_pow (n := 32) (by omega) (by omega))
theorem reg_lt (l : List Nat) (c : Nat) (h : c < 4294967296) (hl : ∀ x, x ∈ l → x < 256) : reg c l < 4294967296 := by
  induction l generalizing c with
  | nil => exact h
  | cons x r ih => exact ih _ (stp_lt c x h (hl x (by simp))) (fun y hy => hl y (by simp [hy]))
theorem reg_append (c : Nat) (l m : List Nat) : reg c (l ++ m) = reg (reg c l) m := by simp [reg]
theorem reg_xor (l m : List Nat) (c d : Nat) (h : l.length = m.length) : reg (c ^^^ d) (List.zipWith (· ^^^ ·) l m) = reg c l ^^^ reg d m := by
  induction l generalizing m c d with
  | nil => cases m with
    | nil => rfl
    | cons y s => simp at h
  | cons x r ih => cases m with
    | nil => simp at h
    | cons y s =>
      simp only [List.zipWith_cons_cons, reg, List.foldl_cons]
      rw [stp_xor]
      exact ih s _ _ (by simpa using h)
theorem reg_zeros (n c : Nat) : reg c (List.replicate n 0) = shN (8 * n) c := by
  induction n generalizing c with
  | zero => rfl
  | succ n ih =>
    rw [List.replicate_succ, reg, List.foldl_cons]
    show reg (stp c 0) _ = _
    rw [ih, Nat.mul_succ, Nat.add_comm, shN_add]
    simp [stp]
/-- Going on from a sum. -/
theorem more_append (c : Nat) (l m : List Nat) : more (more c l) m = more c (l ++ m) := by
  unfold more
  rw [← Nat.xor_assoc, Nat.xor_self, Nat.zero_xor, reg_append]
/-- A register of its own, and the bytes from nought. -/
theorem reg_split (c : Nat) (l : List Nat) : reg c l = shN (8 * l.length) c ^^^ reg 0 l := by
  have e : List.zipWith (· ^^^ ·) (List.replicate l.length 0) l = l := by
    induction l with
    | nil => rfl
    | cons x r ih => simp [List.replicate_succ, ih]
  have := reg_xor (List.replicate l.length 0) l c 0 (by simp)
  rw [e, Nat.xor_zero, reg_zeros] at this
  exact this
/-- Join: the first sum goes on by n noughts, without the turns. -/
theorem join_eq (l m : List Nat) : more (sum l) m = shN (8 * m.length) (sum l) ^^^ sum m := by
  unfold sum
  generalize more 0 l = s
  unfold more
  rw [reg_split (ones ^^^ s), reg_split (ones ^^^ 0), shN_xor, Nat.xor_zero]
  rw [Nat.xor_comm (shN (8 * m.length) ones), ← Nat.xor_assoc, ← Nat.xor_assoc, ← Nat.xor_assoc, ← Nat.xor_assoc]
  rw [Nat.xor_comm ones, Nat.xor_assoc (shN (8 * m.length) s) ones, Nat.xor_assoc, Nat.xor_assoc]
/-- Three rows laid over one another. -/
theorem sum_mix (l m n : List Nat) (h1 : l.length = m.length) (h2 : m.length = n.length) : sum (List.zipWith (· ^^^ ·) (List.zipWith (· ^^^ ·) l m) n) = sum l ^^^ sum m ^^^ sum n := by
  unfold sum more
  simp only [Nat.xor_zero]
  have e1 := reg_xor (List.zipWith (· ^^^ ·) l m) n (ones ^^^ ones) ones (by simp [h1, h2])
  rw [reg_xor l m ones ones h1, Nat.xor_self, Nat.zero_xor] at e1
  rw [e1]
  generalize reg ones l = a
  generalize reg ones m = b
  generalize reg ones n = c
  have e2 : (ones ^^^ a) ^^^ (ones ^^^ b) = a ^^^ b := by
    rw [Nat.xor_comm ones a, Nat.xor_assoc, ← Nat.xor_assoc ones, Nat.xor_self, Nat.zero_xor]
  rw [e2, ← Nat.xor_assoc, Nat.xor_comm ones (a ^^^ b), Nat.xor_assoc]
/-- The sums of two rows of one length part by the register of what parts them. -/
theorem sum_diff (l d : List Nat) (h : l.length = d.length) : sum (List.zipWith (· ^^^ ·) l d) = sum l ^^^ reg 0 d := by
  unfold sum more
  simp only [Nat.xor_zero]
  have e1 := reg_xor l d ones 0 h
  rw [Nat.xor_zero] at e1
  rw [e1, ← Nat.xor_assoc]
/-- Four bytes at most, from nought: the number that they are goes on. -/
def num : List Nat → Nat
  | [] => 0
  | x :: r => x ^^^ 256 * num r
theorem reg_num (l : List Nat) (c : Nat) : reg c l = shN (8 * l.length) (c ^^^ num l) := by
  induction l generalizing c with
  | nil => simp [reg, num, shN]
  | cons x r ih =>
    show reg (stp c x) r = _
    rw [ih, num, List.length_cons, Nat.mul_succ, Nat.add_comm, shN_add, ← Nat.xor_assoc, shN_xor 8 (c ^^^ x)]
    congr 2
    exact (shN_pow 8 (num r)).symm
theorem num_lt (l : List Nat) (h : ∀ x, x ∈ l → x < 256) : num l < 256 ^ l.length := by
  induction l with
  | nil => simp [num]
  | cons x r ih =>
    have h1 := ih (fun y hy => h y (by simp [hy]))
    have h2 := h x (by simp)
    rw [num, List.length_cons]
    have e : (256 : Nat) ^ (r.length + 1) = 2 ^ (8 * (r.length + 1)) := by rw [Nat.pow_mul]
    rw [e]
    apply Nat.xor_lt_two_pow
    · have := Nat.pow_le_pow_right (n := 2) (by decide) (show 8 ≤ 8 * (r.length + 1) by omega)
      omega
    · rw [← e, Nat.pow_succ]; omega
theorem num_zero (l : List Nat) (h : ∀ x, x ∈ l → x < 256) (h0 : num l = 0) : ∀ x, x ∈ l → x = 0 := by
  induction l with
  | nil => simp
  | cons x r ih =>
    have hx := h x (by simp)
    rw [num] at h0
    have e : x = 256 * num r := by
      have := congrArg (x ^^^ ·) h0
      simp only [← Nat.xor_assoc, Nat.xor_self, Nat.zero_xor, Nat.xor_zero] at this
      exact this.symm
    have hr : num r = 0 := by omega
    intro y hy
    rcases List.mem_cons.1 hy with rfl | hy
    · omega
    · exact ih (fun z hz => h z (by simp [hz])) hr y hy
/-- What parts two rows within four neighbouring bytes parts their sums. -/
theorem burst (n m : Nat) (d : List Nat) (hd : ∀ x, x ∈ d → x < 256) (h4 : d.length ≤ 4) (h0 : reg 0 (List.replicate n 0 ++ d ++ List.replicate m 0) = 0) : ∀ x, x ∈ d → x = 0 := by
  rw [reg_append, reg_append, reg_zeros, reg_zeros, shN_zero, reg_num, Nat.zero_xor] at h0
  have hl := num_lt d hd
  have hp := Nat.pow_le_pow_right (n := 256) (by decide) h4
  have hlt : num d < 4294967296 := by omega
  exact num_zero d hd (shN_inj0 _ _ hlt (shN_inj0 _ _ (shN_lt _ _ hlt) h0))
theorem xor_zero_iff (a b : Nat) : a ^^^ b = a ↔ b = 0 := by
  constructor
  · intro h
    have := congrArg (a ^^^ ·) h
    simp only [← Nat.xor_assoc, Nat.xor_self, Nat.zero_xor] at this
    exact this
  · rintro rfl; simp
/-- A linear function on 32 binary digits by its values at the powers of two: what a matrix of 32 words holds. -/
def lin (f : Nat → Nat) (v : Nat) : Nat → Nat
  | 0 => 0
  | i + 1 => lin f v i ^^^ (if v / 2 ^ i % 2 = 1 then f (2 ^ i) else 0)
theorem low_xor (v i : Nat) : v % 2 ^ (i + 1) = v % 2 ^ i ^^^ (if v / 2 ^ i % 2 = 1 then 2 ^ i else 0) := by
  apply Nat.eq_of_testBit_eq
  intro j
  rw [Nat.testBit_xor, Nat.testBit_mod_two_pow, Nat.testBit_mod_two_pow]
  have hb : v.testBit i = decide (v / 2 ^ i % 2 = 1) := by
    simp only [Nat.testBit, Nat.shiftRight_eq_div_pow, Nat.one_and_eq_mod_two]
    rcases Nat.mod_two_eq_zero_or_one (v / 2 ^ i) with h | h <;> simp [h]
  rcases Nat.lt_trichotomy j i with h | h | h
  · split
    · rw [Nat.testBit_two_pow_of_ne (by omega)]; simp [h, show j < i + 1 by omega]
    · simp [h, show j < i + 1 by omega]
  · subst h
    split
    · rename_i c; simp [hb, c]
    · rename_i c; simp [hb, c]
  · split
    · rw [Nat.testBit_two_pow_of_ne (by omega)]; simp [show ¬ j < i by omega, show ¬ j < i + 1 by omega]
    · simp [show ¬ j < i by omega, show ¬ j < i + 1 by omega]
theorem lin_eq (f : Nat → Nat) (hf : ∀ a b, f (a ^^^ b) = f a ^^^ f b) (h0 : f 0 = 0) (v i : Nat) : lin f v i = f (v % 2 ^ i) := by
  induction i with
  | zero => simp [lin, h0, Nat.mod_one]
  | succ i ih =>
    rw [lin, ih, low_xor, hf]
    congr 1
    split
    · rfl
    · rw [h0]
end Go.Proofs.YtaooidckmepdeaaDoor.P
