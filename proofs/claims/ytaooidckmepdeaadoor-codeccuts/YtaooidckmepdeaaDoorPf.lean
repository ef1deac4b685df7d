/- When Decode reads a record, as the document's own Decode asks it. -/
import Derived.Test.YtaooidckmepdeaaDoorPe
import Derived.Test.YtaooidckmepdeaaDoorTx
namespace Go.Proofs.YtaooidckmepdeaaDoor
set_option linter.unusedSimpArgs false
set_option linter.unusedVariables false
open Go.RowKit
theorem strN_size (l : List Nat) : (strN l).size = l.length := by
  have h : (strN l).data.toList.length = l.length := by
    unfold strN
    rw [strOfNums_data]
    simp
  rw [← h]
  simp
theorem strN_nil : strN [] = ⟨#[]⟩ := rfl
theorem empty_facts : (strN []).size ≤ 2000 ∧ (strN []).toList = [] := ⟨by decide, by decide +kernel⟩
theorem txB_true (there : Bool) (q : List Nat) : txB there q true = true := by
  unfold txB
  split <;> simp
theorem zag_bd (V : Nat) (h : V ≤ 18446744073709551615) : -9223372036854775808 ≤ zag V ∧ zag V ≤ 9223372036854775807 := by
  unfold zag
  split <;> omega
theorem wrap_in {x : Int} (h0 : -9223372036854775808 ≤ x) (h1 : x ≤ 9224497936761618431) (h : 0 ≤ wrap64 x ∧ wrap64 x ≤ 1125899906842624) : 0 ≤ x ∧ x ≤ 1125899906842624 := by
  unfold wrap64 at h
  omega
theorem wrap_off {V : Nat} (h0 : V ≤ 18446744073709551615) (h : 0 ≤ wrap64 V ∧ wrap64 V ≤ 99) : V ≤ 99 := by
  unfold wrap64 at h
  omega
theorem tx_ok {q : List Nat} {bad : Bool} (h : txB true q bad = false) (hs : (strN (txV true q)).size ≤ 2000) : okT q = true ∧ bad = false := by
  simp only [txB, if_true, Bool.or_eq_false_iff] at h
  obtain ⟨⟨h1, h2⟩, h3⟩ := h
  refine ⟨?_, h1⟩
  have h4 := of_decide_eq_false h3
  rw [strN_size] at hs
  simp only [txV, if_true, h3] at hs
  rw [if_neg (by simp), List.length_take] at hs
  unfold okT
  rw [h2, h3]
  simp only [Bool.not_false, Bool.and_true, Bool.true_and, decide_eq_true_eq]
  omega
theorem ok_tx {q : List Nat} (h : okT q = true) (bad : Bool) : txB true q bad = bad ∧ txV true q = (q.drop (numN q)).take (numV q) ∧ txL true q = q.drop (numN q + numV q) ∧ (strN (txV true q)).size ≤ 2000 ∧ numN q + numV q ≤ q.length := by
  simp only [okT, Bool.and_eq_true, Bool.not_eq_true', decide_eq_true_eq] at h
  obtain ⟨⟨h1, h2⟩, h3⟩ := h
  have h4 := of_decide_eq_false h3
  have e : txV true q = (q.drop (numN q)).take (numV q) := by
    unfold txV
    rw [if_pos rfl, h3]
    rfl
  have hn := numN_le q
  rw [List.length_drop] at h4
  refine ⟨?_, e, ?_, ?_, by omega⟩
  · unfold txB
    rw [if_pos rfl, h1, h3]
    simp
  · unfold txL
    rw [if_pos rfl, h3, ← List.drop_drop]
    rfl
  · rw [e, strN_size, List.length_take]
    omega
/-- What must hold. -/
structure Reads (l : List Nat) (first : Int) : Prop where
  n0 : numN (p0 l) ≠ 0
  v0 : numV (p0 l) ≤ 99
  n1 : numN (p1 l) ≠ 0
  t0 : 0 ≤ first + zag (numV (p1 l))
  t1 : first + zag (numV (p1 l)) ≤ 1125899906842624
  k : hkOf l = true → okT (p2 l) = true
  v : hvOf l = true → okT (p3 l) = true
theorem reads_of {l : List Nat} {first : Int} (f0 : 0 ≤ first) (f1 : first ≤ 1125899906842624) (h : okD l first = true) : Reads l first := by
  unfold okD at h
  simp only [Bool.and_eq_true, Bool.not_eq_true', beq_iff_eq] at h
  obtain ⟨⟨_, hb⟩, hc⟩ := h
  obtain ⟨t0, t1, o0, o1, k1, v1, _, _⟩ := chk_ok hc
  simp only [rcOf] at t0 t1 o0 o1 k1 v1
  have z := zag_bd (numV (p1 l)) (numV_le _)
  have ht := wrap_in (by omega) (by omega) ⟨t0, t1⟩
  unfold badAt at hb
  have hkv : (hvOf l = true → okT (p3 l) = true) ∧ txB (hkOf l) (p2 l) (b2 l) = false := by
    cases hv : hvOf l
    · rw [hv] at hb
      exact ⟨fun c => (by cases c), hb⟩
    · rw [hv] at hb v1
      exact ⟨fun _ => (tx_ok hb v1).1, (tx_ok hb v1).2⟩
  have hkk : (hkOf l = true → okT (p2 l) = true) ∧ b2 l = false := by
    have hb2 := hkv.2
    cases hk : hkOf l
    · rw [hk] at hb2
      exact ⟨fun c => (by cases c), hb2⟩
    · rw [hk] at hb2 k1
      exact ⟨fun _ => (tx_ok hb2 k1).1, (tx_ok hb2 k1).2⟩
  have h2 := hkk.2
  simp only [b2, Bool.or_eq_false_iff, beq_eq_false_iff_ne] at h2
  exact ⟨h2.1, wrap_off (numV_le _) ⟨o0, o1⟩, h2.2, ht.1, ht.2, hkk.1, hkv.1⟩
theorem of_reads {l : List Nat} {first : Int} (hg : gate l first = true) (h : Reads l first) : okD l first = true ∧
    rcOf l first = ⟨hkOf l, if hkOf l = true then strN (((p2 l).drop (numN (p2 l))).take (numV (p2 l))) else ⟨#[]⟩, hvOf l, if hvOf l = true then strN (((p3 l).drop (numN (p3 l))).take (numV (p3 l))) else ⟨#[]⟩, first + zag (numV (p1 l)), ((numV (p0 l) : Nat) : Int)⟩ := by
  obtain ⟨n0, v0, n1, t0, t1, k, v⟩ := h
  have e1 : wrap64 (first + zag (numV (p1 l))) = first + zag (numV (p1 l)) := w64 _ (by omega) (by omega)
  have e2 : wrap64 ((numV (p0 l) : Nat) : Int) = ((numV (p0 l) : Nat) : Int) := w64 _ (by omega) (by omega)
  have s1 : strN (txV (hkOf l) (p2 l)) = (if hkOf l = true then strN (((p2 l).drop (numN (p2 l))).take (numV (p2 l))) else ⟨#[]⟩) ∧ (strN (txV (hkOf l) (p2 l))).size ≤ 2000 ∧ (hkOf l = false → (strN (txV (hkOf l) (p2 l))).toList = []) ∧ txB (hkOf l) (p2 l) (b2 l) = b2 l := by
    cases hk : hkOf l
    · exact ⟨rfl, empty_facts.1, fun _ => empty_facts.2, rfl⟩
    · obtain ⟨a1, a2, a3, a4, a5⟩ := ok_tx (k hk) (b2 l)
      exact ⟨by rw [a2, if_pos rfl], a4, fun c => (by cases c), a1⟩
  have s2 : strN (txV (hvOf l) (p3 l)) = (if hvOf l = true then strN (((p3 l).drop (numN (p3 l))).take (numV (p3 l))) else ⟨#[]⟩) ∧ (strN (txV (hvOf l) (p3 l))).size ≤ 2000 ∧ (hvOf l = false → (strN (txV (hvOf l) (p3 l))).toList = []) ∧ txB (hvOf l) (p3 l) (b2 l) = b2 l := by
    cases hv : hvOf l
    · exact ⟨rfl, empty_facts.1, fun _ => empty_facts.2, rfl⟩
    · obtain ⟨a1, a2, a3, a4, a5⟩ := ok_tx (v hv) (b2 l)
      exact ⟨by rw [a2, if_pos rfl], a4, fun c => (by cases c), a1⟩
  have eb : b2 l = false := by
    unfold b2
    rw [Bool.or_eq_false_iff, beq_eq_false_iff_ne, beq_eq_false_iff_ne]
    exact ⟨n0, n1⟩
  have hbad : badAt l = false := by
    unfold badAt
    rw [s1.2.2.2, s2.2.2.2, eb]
  have hchk : chk (rcOf l first) = 0 := by
    unfold chk oddB rcOf
    simp only [e1, e2]
    have c1 : timeB (first + zag (numV (p1 l))) = true := (time_iff _).2 ⟨t0, t1⟩
    rw [c1]
    have q1 := s1.2.1
    have q2 := s1.2.2.1
    have q3 := s2.2.1
    have q4 := s2.2.2.1
    generalize strN (txV (hkOf l) (p2 l)) = x at *
    generalize strN (txV (hvOf l) (p3 l)) = y at *
    generalize hkOf l = a at *
    generalize hvOf l = b at *
    generalize numV (p0 l) = V at *
    clear s1 s2 k v
    grind
  refine ⟨?_, ?_⟩
  · unfold okD
    rw [hg, hbad, hchk]
    rfl
  · unfold rcOf
    rw [e1, e2, s1.1, s2.1]
end Go.Proofs.YtaooidckmepdeaaDoor
