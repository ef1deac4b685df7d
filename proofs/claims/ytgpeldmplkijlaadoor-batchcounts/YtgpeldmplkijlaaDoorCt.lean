/- Batches of records that are all alike, on plain lists: which may be, and how many bytes they have. -/
import Derived.Test.YtgpeldmplkijlaaDoorFr
import Derived.Test.YtgpeldmplkijlaaDoorLw
namespace Go.Proofs.YtgpeldmplkijlaaDoor
set_option linter.unusedSimpArgs false
set_option linter.unusedVariables false
open Go.RowKit
theorem strN_len (l : List Nat) : (strN l).size = l.length := by
  have h : (strN l).data.toList.length = l.length := by
    unfold strN
    rw [strOfNums_data]
    simp
  rw [← h]
  simp
theorem rep_lt (m : Nat) : ∀ i, (List.replicate m 0).getD i 0 < 256 := by
  intro i
  simp only [List.getD, List.getElem?_replicate]
  split <;> simp
theorem groups_one (V : Nat) (h : V < 128) : (groups V).length = 1 := by
  unfold groups vr
  rw [if_pos h]
  rfl
theorem groups_two (V : Nat) (h : 128 ≤ V) (h2 : V < 16384) : (groups V).length = 2 := by
  unfold groups vr
  rw [if_neg (by omega)]
  unfold vr
  rw [if_pos (by omega)]
  rfl
/-- A record whose value is so many noughts. -/
def rn (m : Nat) (o : Int) : Rc := ⟨false, ⟨#[]⟩, true, strN (List.replicate m 0), 0, o⟩
def eachN (m : Nat) : Nat := 4 + m + (if 128 ≤ m then 1 else 0)
theorem rn_chk (m : Nat) (o : Int) (hm : m ≤ 2000) (h0 : 0 ≤ o) (h1 : o ≤ 99) : chk (rn m o) = 0 := by
  have h2 := strN_len (List.replicate m 0)
  rw [List.length_replicate] at h2
  have h3 : (⟨#[]⟩ : ByteArray).size = 0 := rfl
  have h4 : ((⟨#[]⟩ : ByteArray).toList == []) = true := by decide +kernel
  have h5 : timeB 0 = true := by decide
  unfold chk oddB rn
  simp only [h2, h3, h4, h5]
  rw [if_neg (by simp; omega), if_neg (by omega)]
theorem rn_len (m : Nat) (o : Int) (hm : m ≤ 2000) (h0 : 0 ≤ o) (h1 : o ≤ 99) : (encL (rn m o) 0).length = eachN m := by
  have h2 := strN_len (List.replicate m 0)
  rw [List.length_replicate] at h2
  unfold encL rn
  have hz : (zig (0 - 0)).toNat = 0 := by decide
  have ht : textL false (⟨#[]⟩ : ByteArray) = [] := rfl
  have hv : (textL true (strN (List.replicate m 0))).length = (groups m).length + m := by
    unfold textL
    rw [if_pos rfl, List.length_append, sb_len, h2]
  simp only [hz, ht, List.length_cons, List.length_append, hv, groups_one 0 (by decide), groups_one o.toNat (by omega), List.length_nil]
  unfold eachN
  by_cases h : 128 ≤ m
  · rw [if_pos h, groups_two m h (by omega)]; omega
  · rw [if_neg h, groups_one m (by omega)]; omega
theorem rn_num (m n i : Nat) (h : i < n) : num ((List.replicate n (rn m 0)).getD i rz) i = rn m (i : Int) := by
  simp [List.getD, List.getElem?_replicate, h, num, rn]
theorem rn_get (m n i : Nat) (h : i < n) : (numL n (List.replicate n (rn m 0))).getD i rz = rn m (i : Int) := by
  have h2 := numL_get n (List.replicate n (rn m 0)) i (by simpa using h)
  rw [h2, if_pos h, rn_num m n i h]
theorem body_each (f : Int) (e : Nat) (rs : List Rc) (h : ∀ r, r ∈ rs → (encL r f).length = e) : (bodyL rs f).length = rs.length * e := by
  induction rs with
  | nil => simp [bodyL]
  | cons r t ih =>
    rw [body_cons, List.length_append, ih (fun q hq => h q (by simp [hq])), h r (by simp), List.length_cons, Nat.add_mul, Nat.one_mul, Nat.add_comm]
/-- The batch of n records of m noughts. -/
def cb (n m : Nat) : Ba := frB 0 0 0 (List.replicate n (rn m 0))
theorem cb_rs (n m : Nat) : (cb n m).rs = numL n (List.replicate n (rn m 0)) := by unfold cb frB; simp
theorem cb_len (n m : Nat) : (cb n m).rs.length = n := by rw [cb_rs, numL_len]; simp
theorem cb_mem (n m : Nat) : ∀ r, r ∈ (cb n m).rs → ∃ i : Nat, i < n ∧ r = rn m (i : Int) := by
  intro r hr
  obtain ⟨i, hi, rfl⟩ := List.getElem_of_mem hr
  have hi' := hi
  rw [cb_len] at hi'
  refine ⟨i, hi', ?_⟩
  have h2 := rn_get m n i hi'
  rw [← cb_rs] at h2
  rw [← h2]
  simp [List.getD, hi]
theorem cb_many (n m : Nat) (h : 100 < n) : chkB (cb n m) = 1 := by
  have hs : (cb n m).span = (n : Int) := by show max 1 (((List.replicate n (rn m 0)).length : Nat) : Int) = _; rw [List.length_replicate]; omega
  have h1 : wrE (cb n m) = 1 := by
    unfold wrE numsB
    rw [hs, show decide ((n : Int) ≤ 100) = false from decide_eq_false (by omega)]
    simp
  unfold chkB
  rw [h1]
  simp
theorem cb_wr (n m : Nat) (h0 : 0 < n) (h : n ≤ 100) (hm : m ≤ 2000) : wrE (cb n m) = 0 := by
  have hs : (cb n m).span = (n : Int) := by show max 1 (((List.replicate n (rn m 0)).length : Nat) : Int) = _; rw [List.length_replicate]; omega
  have hr : riseB (cb n m).rs (cb n m).span = true := by
    apply rise_yes
    intro i hi
    rw [cb_len] at hi
    rw [hs, cb_rs]
    refine ⟨by rw [rn_get m n i hi]; show (i : Int) < n; omega, fun h1 => ?_⟩
    rw [rn_get m n i hi, rn_get m n (i - 1) (by omega)]
    show ((i - 1 : Nat) : Int) < (i : Int)
    omega
  unfold wrE
  rw [if_pos]
  · apply fst_zero
    intro x hx
    rw [cb_len] at hx
    rw [cb_rs, rn_get m n x hx]
    exact rn_chk m _ hm (by omega) (by omega)
  · unfold numsB
    rw [hr, hs, cb_len]
    have e1 : baseB (cb n m).base = true := by show baseB 0 = true; decide
    have e2 : (cb n m).prod = 0 := rfl
    have e3 : (cb n m).seq = 0 := rfl
    rw [e1, e2, e3]
    simp
    omega
theorem cb_frs (n m : Nat) (h0 : 0 < n) : frs (cb n m) = 0 := by
  unfold frs
  rw [cb_rs, rn_get m n 0 h0]
  rfl
theorem cb_body (n m : Nat) (h0 : 0 < n) (h : n ≤ 100) (hm : m ≤ 2000) : (bodyL (cb n m).rs (frs (cb n m))).length = n * eachN m := by
  rw [cb_frs n m h0, body_each 0 (eachN m) (cb n m).rs, cb_len]
  intro r hr
  obtain ⟨i, hi, rfl⟩ := cb_mem n m r hr
  exact rn_len m _ hm (by omega) (by omega)
theorem cb_big (n m : Nat) (h0 : 0 < n) (h : n ≤ 100) (hm : m ≤ 2000) (hb : 6000 < 48 + n * eachN m) : chkB (cb n m) = 2 := by
  unfold chkB
  rw [if_pos (cb_wr n m h0 h hm), cb_body n m h0 h hm, if_pos hb]
theorem cb_fit (n m : Nat) (h0 : 0 < n) (h : n ≤ 100) (hm : m ≤ 2000) (hb : 48 + n * eachN m ≤ 6000) : chkB (cb n m) = 0 ∧ (encBL (cb n m)).length = 48 + n * eachN m := by
  refine ⟨?_, by rw [encB_len, cb_body n m h0 h hm]⟩
  unfold chkB
  rw [if_pos (cb_wr n m h0 h hm), cb_body n m h0 h hm, if_neg (by omega)]
theorem made_zero (m : Nat) : madeCells (Value.int .u8 0).cells (m * 1) = (cv (List.replicate m 0)).toArray := by
  unfold madeCells
  apply Array.ext
  · simp [cv]
  · intro i h1 h2
    simp [Value.cells, cv, Nat.mod_one]
end Go.Proofs.YtgpeldmplkijlaaDoor
