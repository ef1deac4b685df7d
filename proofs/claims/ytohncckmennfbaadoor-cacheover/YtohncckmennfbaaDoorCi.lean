/- is: does a cache tell a state? The states' boxes; the arguments. -/
import Derived.Test.YtohncckmennfbaaDoorCk
namespace Go.Proofs.YtohncckmennfbaaDoor
set_option linter.unusedSimpArgs false
set_option linter.unusedVariables false
open Go.RowKit Go.MapKept Go.Proofs
/-- A state of eighty numbers, as a value. -/
def av (st : List Int) : Array Value := (st.map (Value.int .i64)).toArray
def isB (V : Nat → List Nat) (st : List Int) : Bool := (List.range 80).all fun k => decide (V (245 + k) = bb (st.getD k 0))
theorem isB_no {V : Nat → List Nat} {st : List Int} {k : Nat} (hk : k < 80) (h : V (245 + k) ≠ bb (st.getD k 0)) : isB V st = false := by
  rw [isB, List.all_eq_false]
  exact ⟨k, List.mem_range.2 hk, by simpa using h⟩
theorem isB_yes {V : Nat → List Nat} {st : List Int} (h : ∀ k, k < 80 → V (245 + k) = bb (st.getD k 0)) : isB V st = true := by
  rw [isB, List.all_eq_true]
  intro k hk
  simpa using h k (List.mem_range.1 hk)
theorem av_get (st : List Int) (k : Nat) (h : k < st.length) : (av st)[k]? = some (.int .i64 (st.getD k 0)) := by simp [av, List.getD, h]
set_option maxRecDepth 100000 in
theorem is_any {B : Nat} {E : List Nat} {w1 w : World} {j dp m : Nat} {V0 : Nat → List Nat} {X : Tx} (hJ : CS B E w1 w j dp m V0 X) {V : Nat → List Nat} (hV : txV V0 X = V) (st : List Int) (hst : st.length = 80) :
    Calls Tryd.prog 20 #[.pointer (some ⟨j, 0, none⟩), .agg (av st)] w fun e w' => e = .returned (.bool (isB V st)) ∧ Below w.heap.size w w' := by
  have b1 : Below w.heap.size w (w.alloc (.cells (av st) 29)) := (Below.refl _ _).alloc (Nat.le_refl _) _
  have hb1 := heap_alloc_new w (.cells (av st) 29)
  have HRD : Hid (∀ (w' : World) (k : Nat), Below w.heap.size w w' → k < 80 → Calls Tryd.prog 21 #[.pointer (some ⟨j, 0, none⟩), .int .i64 (245 + (k : Int))] w' fun e w'' => ∃ g ty, e = .returned (.tuple #[.slice (some ⟨g, 0, none⟩) 512 512, .int .i64 0]) ∧ Full w'' g ty (V (245 + k)) ∧ w'.heap.size ≤ g ∧ Below w'.heap.size w' w'') := fun w' k hb hk => by
    have := (hJ.below hb).read (245 + k) (by omega) (by omega)
    rw [hV] at this
    rw [show ((245 + k : Nat) : Int) = 245 + (k : Int) by omega] at this
    exact this
  have HV : Hid (∀ k, k < 80 → (V (245 + k)).length = 512 ∧ ∀ i, (V (245 + k)).getD i 0 < 256) := fun k hk => by rw [← hV]; exact hJ.tell (by omega) (by omega)
  have HCE : Hid (∀ w', Below (w.alloc (.cells (av st) 29)).heap.size (w.alloc (.cells (av st) 29)) w' → ∀ k, k < 80 → w'.cell? ⟨w.heap.size, k, none⟩ = some (.int .i64 (st.getD k 0))) := fun w' hb k hk => by
    have hlt : w.heap.size < (w.alloc (.cells (av st) 29)).heap.size := by show _ < (w.heap.push _).size; simp
    rw [cell_of_row _ _ _ _ _ _ ((hb.block _ hlt).trans hb1)]
    exact av_get st k (by omega)
  have HB1 : Hid _ := b1
  clear hJ hV hb1 b1
  go_enter Tryd.func20, Tryd.ntmps20
  go_wp2
  go_loopw [5] (fun i wr => ∃ k, k ≤ 80 ∧ i = .int .i64 ((k : Nat) : Int) ∧ Below (w.alloc (.cells (av st) 29)).heap.size (w.alloc (.cells (av st) 29)) wr ∧ ∀ x, x < k → V (245 + x) = bb (st.getD x 0)) (fun i _ => 80 - (intOf i).toNat)
  case atStart => exact ⟨0, by omega, rfl, Below.refl _ _, by intro x hx; omega⟩
  case round =>
    obtain ⟨k, hk, rfl, hbw, hall⟩ := hrel
    have HA : Hid (∀ x, x < k → V (245 + x) = bb (st.getD x 0)) := hall
    clear hall
    have hb2 := HB1.out.trans (hbw.mono HB1.out.size)
    by_cases hlt : k < 80
    · have hltI : (k : Int) < 80 := by omega
      have HR2 : Hid _ := HRD.out wr k hb2 hlt
      obtain ⟨v1, v2⟩ := HV.out k hlt
      have HV2 : Hid (∀ i, (V (245 + k)).getD i 0 < 256) := v2
      have HC2 : Hid (∀ w', Below wr.heap.size wr w' → w'.cell? ⟨w.heap.size, k, none⟩ = some (.int .i64 (st.getD k 0))) := fun w' hb => HCE.out w' (hbw.trans (hb.mono hbw.size)) k hlt
      have HNO : Hid (V (245 + k) ≠ bb (st.getD k 0) → isB V st = false) := isB_no hlt
      have HYES : Hid (V (245 + k) = bb (st.getD k 0) → ∀ x, x < k + 1 → V (245 + x) = bb (st.getD x 0)) := fun e x hx => by
        by_cases h : x = k
        · subst h; exact e
        · exact HA.out x (by omega)
      clear v2
      generalize V (245 + k) = L at *
      generalize st.getD k 0 = Z at *
      by_cases heq : L = bb Z
      · have hde : decide (L = bb Z) = true := decide_eq_true heq
        have HE : Hid (L = bb Z) := heq
        clear heq
        go_wp2_with (first
          | (go_at_call 21; refine Calls.mono HR2.out ?_; rintro e w3 ⟨g3, ty3, rfl, hg3, _, hb3⟩; have cz := HC2.out w3 hb3)
          | (go_at_call 14; refine (block_any Z _).mono ?_; rintro e w4 ⟨g4, rfl, hg4, _, hb4⟩; have hg3' := hg3.below hb4)
          | (go_at_call 26; refine (bytesF hg3' hg4 v1 (bb_len Z) HV2.out (bb_lt Z)).mono ?_; rintro e w5 ⟨rfl, hb5⟩; rw [hde]))
        have hb35 := (hb3.trans (hb4.mono hb3.size)).trans (hb5.mono (Nat.le_trans hb3.size hb4.size))
        exact ⟨⟨k + 1, by omega, by go_num, hbw.trans (hb35.mono hbw.size), HYES.out HE.out⟩, by simp [intOf]; omega⟩
      · have hde : decide (L = bb Z) = false := decide_eq_false heq
        have HE : Hid (isB V st = false) := HNO.out heq
        clear heq
        go_wp2_with (first
          | (go_at_call 21; refine Calls.mono HR2.out ?_; rintro e w3 ⟨g3, ty3, rfl, hg3, _, hb3⟩; have cz := HC2.out w3 hb3)
          | (go_at_call 14; refine (block_any Z _).mono ?_; rintro e w4 ⟨g4, rfl, hg4, _, hb4⟩; have hg3' := hg3.below hb4)
          | (go_at_call 26; refine (bytesF hg3' hg4 v1 (bb_len Z) HV2.out (bb_lt Z)).mono ?_; rintro e w5 ⟨rfl, hb5⟩; rw [hde]))
        go_ret
        have hb35 := (hb3.trans (hb4.mono hb3.size)).trans (hb5.mono (Nat.le_trans hb3.size hb4.size))
        exact ⟨by rw [HE.out]; rfl, hb2.trans (hb35.mono hb2.size)⟩
    · obtain rfl : k = 80 := by omega
      have HY : Hid (isB V st = true) := isB_yes HA.out
      go_wp2
      go_ret
      exact ⟨by rw [HY.out]; rfl, hb2⟩
end Go.Proofs.YtohncckmennfbaaDoor
