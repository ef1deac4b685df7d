/- What the laws lean on: two rows alike, a block whose bytes are all one, a number brought into a range. -/
import Derived.Test.YtpjeidihcjljnaaGreatDoorCh
import Derived.OwnWalk
namespace Go.Proofs.YtpjeidihcjljnaaGreatDoor
set_option linter.unusedSimpArgs false
set_option linter.unusedVariables false
open Go.RowKit Go.MapKept
/-- A block whose bytes are all one. -/
def bb (c : Int) : List Nat := List.replicate 512 (c % 256).toNat
theorem bb_len (c : Int) : (bb c).length = 512 := List.length_replicate
theorem bb_get (c : Int) (i : Nat) (h : i < 512) : (bb c).getD i 0 = (c % 256).toNat := by
  unfold bb
  rw [List.getD, List.getElem?_replicate, if_pos h]
  rfl
theorem bb_lt (c : Int) : ∀ i, (bb c).getD i 0 < 256 := by
  intro i
  unfold bb
  rw [List.getD, List.getElem?_replicate]
  split
  · have := Int.emod_lt_of_pos c (show (0 : Int) < 256 by decide)
    have := Int.emod_nonneg c (show (256 : Int) ≠ 0 by decide)
    show (c % 256).toNat < 256
    omega
  · decide
structure BAt (c : Int) (k : Nat) (cur : List Nat) : Prop where
  len : cur.length = 512
  at' : ∀ i, i < k → cur.getD i 0 = (c % 256).toNat
theorem getD_set (l : List Nat) (i j c : Nat) (h : j < l.length) : (l.set i c).getD j 0 = if i = j then c else l.getD j 0 := by
  simp only [List.getD, List.getElem?_set]
  by_cases e : i = j
  · subst e; simp [h]
  · simp [e]
theorem BAt.step {c : Int} {k : Nat} {cur : List Nat} (h : BAt c k cur) (hk : k < 512) : BAt c (k + 1) (cur.set k (c % 256).toNat) := by
  refine ⟨by simp [h.len], fun i hi => ?_⟩
  rw [getD_set _ _ _ _ (by rw [h.len]; omega)]
  split
  · rfl
  · exact h.at' i (by omega)
theorem BAt.done {c : Int} {cur : List Nat} (h : BAt c 512 cur) : cur = bb c :=
  list_ext (by rw [h.len, bb_len]) (fun i hi => by rw [h.len] at hi; rw [h.at' i hi, bb_get c i hi])
theorem made_own {B g n : Nat} {w1 : World} (h : w1.ownsRow B 5 1 (.slice (some ⟨g, 0, none⟩) n n) n (madeCells (Value.int .u8 0).cells (n * 1)).toList) : Full w1 g 5 (List.replicate n 0) := by
  have e : (madeCells (Value.int .u8 0).cells (n * 1)).toList = cv (List.replicate n 0) := by
    simp only [madeCells, cv, Value.cells, List.map_replicate]
    rw [List.eq_replicate_iff]
    refine ⟨by simp, ?_⟩
    intro b hb
    simp [Nat.mod_one] at hb
    obtain ⟨_, _, rfl⟩ := hb
    rfl
  rw [e] at h
  rcases h.2 with ⟨q, _⟩ | ⟨g', cap', cur, q, _, hg, hle, hm, hcs, ht⟩
  · cases q
  · injection q with q1 q2 q3
    injection q1 with q1
    injection q1 with q1
    subst q1; subst q3
    unfold Full
    rw [hg]
    have : cur.toList = cv (List.replicate n 0) := by
      rw [List.take_of_length_le (by simp [hcs])] at ht
      exact ht
    rw [← this]
end Go.Proofs.YtpjeidihcjljnaaGreatDoor
