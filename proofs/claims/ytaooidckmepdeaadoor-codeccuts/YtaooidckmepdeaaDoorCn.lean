/- What is read is what was written: the bytes of a record that is read are those of Encode. -/
import Derived.Test.YtaooidckmepdeaaDoorPf
import Derived.Test.YtaooidckmepdeaaDoorLw
namespace Go.Proofs.YtaooidckmepdeaaDoor
set_option linter.unusedSimpArgs false
set_option linter.unusedVariables false
open Go.RowKit
theorem uv_canon (l : List Nat) : ∀ (i v : Nat), i ≤ 9 → (∀ x, x ∈ l → x < 256) → (uv l i v).2 ≠ 0 → ∃ V t, l = vr (9 - i) V ++ t ∧ (uv l i v).1 = v + V * 128 ^ i ∧ (uv l i v).2 = i + (vr (9 - i) V).length ∧ (0 < i → V ≠ 0) := by
  induction l with
  | nil => intro i v _ _ h; exact absurd rfl h
  | cons c r ih =>
    intro i v hi hl h
    rw [uv_cons] at h ⊢
    have hc : c < 256 := hl c (by simp)
    by_cases h9 : i = 9 ∧ 1 < c
    · rw [if_pos h9] at h; exact absurd rfl h
    rw [if_neg h9] at h ⊢
    by_cases h128 : 128 ≤ c
    · rw [if_pos h128] at h ⊢
      have hi9 : i < 9 := by omega
      obtain ⟨V, t, e1, e2, e3, e4⟩ := ih (i + 1) _ (by omega) (fun x hx => hl x (by simp [hx])) h
      have hV := e4 (by omega)
      have ef : 9 - i = (9 - (i + 1)) + 1 := by omega
      have ev : vr (9 - i) (c % 128 + 128 * V) = c :: vr (9 - (i + 1)) V := by
        rw [ef]
        simp only [vr]
        rw [if_neg (by omega)]
        have a1 : (c % 128 + 128 * V) % 128 + 128 = c := by omega
        have a2 : (c % 128 + 128 * V) / 128 = V := by omega
        rw [a1, a2]
      refine ⟨c % 128 + 128 * V, t, by rw [ev, List.cons_append, ← e1], ?_, by rw [e3, ev, List.length_cons]; omega, by omega⟩
      rw [e2, Nat.pow_succ, Nat.add_mul]
      have : V * (128 ^ i * 128) = 128 * V * 128 ^ i := by
        rw [Nat.mul_comm (128 ^ i), ← Nat.mul_assoc, Nat.mul_comm V]
      omega
    · rw [if_neg h128] at h ⊢
      by_cases h0 : c = 0 ∧ 0 < i
      · rw [if_pos h0] at h; exact absurd rfl h
      rw [if_neg h0]
      have ev : vr (9 - i) c = [c] := by
        generalize 9 - i = f
        cases f <;> simp [vr] <;> omega
      refine ⟨c, r, by rw [ev]; rfl, ?_, by rw [ev]; rfl, by omega⟩
      rw [Nat.mod_eq_of_lt (by omega : c < 128)]
theorem num_canon {l : List Nat} (hl : ∀ x, x ∈ l → x < 256) (h : numN l ≠ 0) : l = groups (numV l) ++ l.drop (numN l) ∧ numN l = (groups (numV l)).length := by
  obtain ⟨V, t, e1, e2, e3, _⟩ := uv_canon l 0 0 (by omega) hl h
  have hV : numV l = V := by unfold numV; rw [e2]; simp
  have hN : numN l = (groups V).length := by unfold numN; rw [e3]; simp [groups]
  rw [hV, hN]
  refine ⟨?_, rfl⟩
  have : l = groups V ++ t := e1
  rw [this, List.drop_left]
theorem sb_strN (l : List Nat) (h : ∀ x, x ∈ l → x < 256) : sb (strN l) = l := by
  unfold sb strN
  rw [strOfNums_data, List.map_map, List.map_map]
  conv => rhs; rw [← List.map_id l]
  apply List.map_congr_left
  intro a ha
  have := h a ha
  simp
  omega
theorem tx_canon {q : List Nat} (hq : ∀ x, x ∈ q → x < 256) (h : okT q = true) : q = textL true (strN (txV true q)) ++ txL true q := by
  obtain ⟨_, e2, e3, _, e5⟩ := ok_tx h false
  have hn : numN q ≠ 0 := by
    simp only [okT, Bool.and_eq_true, Bool.not_eq_true', decide_eq_true_eq] at h
    simpa using h.1.1
  obtain ⟨c1, c2⟩ := num_canon hq hn
  have hl : (txV true q).length = numV q := by rw [e2, List.length_take, List.length_drop]; omega
  unfold textL
  rw [if_pos rfl, strN_size, hl, sb_strN _ (fun x hx => by rw [e2] at hx; exact hq x (List.mem_of_mem_drop (List.mem_of_mem_take hx))), e2, e3, ← List.drop_drop, List.append_assoc, List.take_append_drop]
  exact c1
theorem zig_zag (V : Nat) : zig (zag V) = V := by unfold zag zig; split <;> split <;> omega
theorem head_canon (c : Nat) (h : c ≤ 3) : headB (c % 2 == 1) (c / 2 == 1) = c := by
  match c, h with
  | 0, _ => rfl
  | 1, _ => rfl
  | 2, _ => rfl
  | 3, _ => rfl
/-- Decode reads what Encode writes. -/
theorem dec_canon {l : List Nat} {first : Int} (hl : ∀ x, x ∈ l → x < 256) (h : okD l first = true) : l = encL (rcOf l first) first ++ l.drop (decN l first) ∧ chk (rcOf l first) = 0 ∧ decN l first = (encL (rcOf l first) first).length := by
  have h0 := h
  unfold okD at h
  simp only [Bool.and_eq_true, Bool.not_eq_true', beq_iff_eq, gate, decide_eq_true_eq] at h
  obtain ⟨⟨⟨⟨ht, hlen⟩, h3⟩, _⟩, hc⟩ := h
  obtain ⟨f0, f1⟩ := (time_iff first).1 ht
  obtain ⟨n0, v0, n1, t0, t1, k, v⟩ := reads_of f0 f1 h0
  have m0 : ∀ x, x ∈ p0 l → x < 256 := fun x hx => hl x (List.mem_of_mem_drop hx)
  have m1 : ∀ x, x ∈ p1 l → x < 256 := fun x hx => m0 x (List.mem_of_mem_drop hx)
  have m2 : ∀ x, x ∈ p2 l → x < 256 := fun x hx => m1 x (List.mem_of_mem_drop hx)
  have c0 := (num_canon m0 n0).1
  have c1 := (num_canon m1 n1).1
  have z := zag_bd (numV (p1 l)) (numV_le _)
  have eo : (rcOf l first).o.toNat = numV (p0 l) := by
    simp only [rcOf]
    rw [w64 _ (by omega) (by omega)]
    omega
  have et : zig ((rcOf l first).t - first) = numV (p1 l) := by
    simp only [rcOf]
    rw [w64 _ (by omega) (by omega), show first + zag (numV (p1 l)) - first = zag (numV (p1 l)) by omega, zig_zag]
  have c2 : p2 l = textL (hkOf l) (strN (txV (hkOf l) (p2 l))) ++ p3 l := by
    unfold p3
    cases hk : hkOf l
    · simp [textL, txL]
    · exact tx_canon m2 (k hk)
  have m3 : ∀ x, x ∈ p3 l → x < 256 := fun x hx => m2 x (by rw [c2]; exact List.mem_append_right _ hx)
  have c3 : p3 l = textL (hvOf l) (strN (txV (hvOf l) (p3 l))) ++ p4 l := by
    unfold p4
    cases hv : hvOf l
    · simp [textL, txL]
    · exact tx_canon m3 (v hv)
  have eh : l = headN (rcOf l first) :: p0 l := by
    match l, hlen with
    | c :: r, _ =>
      have : headN (rcOf (c :: r) first) = c := head_canon c h3
      rw [this]
      rfl
  have key : l = encL (rcOf l first) first ++ p4 l := by
    conv => lhs; rw [eh]
    unfold encL
    rw [eo, et, List.cons_append]
    congr 1
    conv => lhs; rw [c0]
    rw [List.append_assoc]
    congr 1
    show p1 l = _
    conv => lhs; rw [c1]
    rw [List.append_assoc]
    have e : ((numV (p1 l) : Nat) : Int).toNat = numV (p1 l) := by omega
    rw [e]
    congr 1
    show p2 l = _
    conv => lhs; rw [c2]
    rw [List.append_assoc]
    congr 1
  have hN : decN l first = l.length - (p4 l).length := by unfold decN; rw [if_pos h0]
  have hL : decN l first = (encL (rcOf l first) first).length := by
    have := congrArg List.length key
    rw [List.length_append] at this
    omega
  refine ⟨?_, hc, hL⟩
  have hd := congrArg (List.drop (encL (rcOf l first) first).length) key
  rw [List.drop_left] at hd
  rw [hL, hd]
  exact key
end Go.Proofs.YtaooidckmepdeaaDoor
