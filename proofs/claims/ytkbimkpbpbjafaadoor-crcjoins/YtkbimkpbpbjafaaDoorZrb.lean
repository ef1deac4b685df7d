/- zeroByte: the matrix of a byte of 0. -/
import Derived.Test.YtkbimkpbpbjafaaDoorSqr
namespace Go.Proofs.YtkbimkpbpbjafaaDoor
set_option linter.unusedSimpArgs false
set_option linter.unusedVariables false
open Go.RowKit
/-- What n digits on makes of each digit alone. -/
def mat (n : Nat) : List Nat := (List.range 32).map fun j => P.shN n (2 ^ j)
theorem mat_len (n : Nat) : (mat n).length = 32 := by simp [mat]
theorem mat_get (n j : Nat) (h : j < 32) : (mat n).getD j 0 = P.shN n (2 ^ j) := by simp [mat, List.getD, h]
theorem pow_lt32 (j : Nat) (h : j < 32) : 2 ^ j < 4294967296 := Nat.pow_lt_pow_right (a := 2) (by decide) (show j < 32 from h)
theorem mat_bd (n : Nat) : ∀ x, x ∈ mat n → x < 4294967296 := by
  intro x hx
  simp only [mat, List.mem_map, List.mem_range] at hx
  obtain ⟨j, hj, rfl⟩ := hx
  exact P.shN_lt _ _ (pow_lt32 j hj)
theorem half_xor (i C : Nat) : 2 ^ i * C = (if C % 2 = 1 then 2 ^ i else 0) ^^^ 2 ^ (i + 1) * (C / 2) := by
  apply Nat.eq_of_testBit_eq
  intro j
  rw [Nat.testBit_xor, Nat.testBit_two_pow_mul, Nat.testBit_two_pow_mul]
  rcases Nat.lt_trichotomy j i with h | h | h
  · split
    · rw [Nat.testBit_two_pow_of_ne (by omega)]; simp [show ¬ i ≤ j by omega, show ¬ i + 1 ≤ j by omega]
    · simp [show ¬ i ≤ j by omega, show ¬ i + 1 ≤ j by omega]
  · subst h
    have hn : ¬ j + 1 ≤ j := by omega
    split
    · rename_i c; rw [Nat.testBit_two_pow_self]; simp [Nat.testBit_zero, c]
    · rename_i c; simp [Nat.testBit_zero, c]; intro c2; omega
  · have e : C.testBit (j - i) = (C / 2).testBit (j - (i + 1)) := by
      rw [show j - i = (j - (i + 1)) + 1 by omega, Nat.testBit_succ]
    split
    · rw [Nat.testBit_two_pow_of_ne (by omega)]; simp [e, show i ≤ j by omega, show i + 1 ≤ j by omega]
    · simp [e, show i ≤ j by omega, show i + 1 ≤ j by omega]
theorem tl_mat (n : Nat) (k : Nat) (C : Nat) (hk : k ≤ 32) (hC : C < 2 ^ k) : tl ((mat n).drop (32 - k)) C = P.shN n (2 ^ (32 - k) * C) := by
  induction k generalizing C with
  | zero =>
    have : C = 0 := by simpa using hC
    subst this
    simp [tl_zero, P.shN_zero]
  | succ k ih =>
    rw [tl_drop _ _ _ (by rw [mat_len]; omega), mat_get _ _ (by omega), show 32 - (k + 1) + 1 = 32 - k by omega, ih (C / 2) (by omega) (by rw [Nat.pow_succ] at hC; omega)]
    conv => rhs; rw [half_xor, P.shN_xor]
    rw [show 32 - (k + 1) + 1 = 32 - k by omega]
    congr 1
    split
    · rfl
    · rw [P.shN_zero]
theorem tl_all (n c : Nat) (h : c < 4294967296) : tl (mat n) c = P.shN n c := by
  have := tl_mat n 32 c (by omega) h
  simpa using this
theorem sq_mat (n : Nat) : sq (mat n) = mat (n + n) := by
  unfold sq
  conv => lhs; rw [show mat n = (List.range 32).map fun j => P.shN n (2 ^ j) from rfl]
  rw [List.map_map, show mat (n + n) = (List.range 32).map fun j => P.shN (n + n) (2 ^ j) from rfl]
  apply List.map_congr_left
  intro j hj
  rw [List.mem_range] at hj
  show tl (mat n) (P.shN n (2 ^ j)) = _
  rw [tl_all _ _ (P.shN_lt _ _ (pow_lt32 j hj)), P.shN_add]
theorem sh_pow (j : Nat) (h : 0 < j) : P.shN 1 (2 ^ j) = 2 ^ (j - 1) := by
  have := P.shN_pow 1 (2 ^ (j - 1))
  rw [← Nat.pow_add, show 1 + (j - 1) = j by omega] at this
  exact this
def first32 : List Nat := 2197175160 :: List.replicate 31 0
/-- Behind k words. -/
structure DgAt (k : Nat) (cur : List Nat) : Prop where
  len : cur.length = 32
  at' : ∀ j, j < k → cur.getD j 0 = P.shN 1 (2 ^ j)
theorem DgAt.step {k : Nat} {cur : List Nat} (h : DgAt k cur) (h0 : 0 < k) (hk : k < 32) : DgAt (k + 1) (cur.set k (2 ^ (k - 1))) := by
  refine ⟨by simp [h.len], fun j hj => ?_⟩
  rw [getD_set _ _ _ _ (by rw [h.len]; omega)]
  by_cases e : k = j
  · subst e; rw [if_pos rfl, sh_pow k h0]
  · rw [if_neg e]; exact h.at' j (by omega)
theorem DgAt.done {cur : List Nat} (h : DgAt 32 cur) : cur = mat 1 := by
  apply list_ext (by rw [h.len, mat_len])
  intro i hi
  rw [h.len] at hi
  rw [h.at' i hi, mat_get 1 i hi]
theorem Tryd.built38 : Tryd.prog.built 38 [(0, .int .u32 2197175160)] = some (mv first32) := by kernel_rfl
theorem below_setRow {B : Nat} {a w : World} (h : Below B a w) {g : Nat} (hg : B ≤ g) (cs : Array Value) : Below B a (w.setRow g cs) :=
  ⟨h.os, h.tape, h.output, by simp; exact h.size, fun k hk => (setRow_other w g k cs (by omega)).trans (h.block k hk)⟩
theorem pow_mod (q : Nat) (h : 2 ^ q < 4294967296) : (2 : Int) ^ q % 4294967296 = ((2 ^ q : Nat) : Int) := by
  have e : (2 : Int) ^ q = ((2 ^ q : Nat) : Int) := by simp
  have key : ∀ x : Nat, x < 4294967296 → ((x : Nat) : Int) % 4294967296 = x := by intro x hx; omega
  rw [e]; exact key _ h
theorem sq_call (n : Nat) (w : World) : Calls Tryd.prog 19 #[.agg (mv (mat n))] w fun e w' => e = .returned (.agg (mv (mat (n + n)))) ∧ Below w.heap.size w w' := by
  have := square_any (mat n) w (mat_len n) (mat_bd n)
  rw [sq_mat] at this
  exact this
set_option maxRecDepth 100000 in
theorem zeroByte_any (w : World) : Calls Tryd.prog 17 #[] w fun e w' => e = .returned (.agg (mv (mat 8))) ∧ Below w.heap.size w w' := by
  obtain ⟨hz, hsz⟩ := zero_of_info Tryd.zero38
  have hs38 : ∀ l : List Nat, l.length = 32 → (Tryd.prog.info? 38).map (·.size) = some (mv l).size := by intro l hl; rw [mv_size, hl]; exact hsz
  have HI : Hid (∀ l : List Nat, l.length = 32 → (Tryd.prog.info? 38).map (·.size) = some (mv l).size) := hs38
  have hbd : ∀ w', (Instr.build 38 #[(0, .int .u32 2197175160)]).run Tryd.prog w' = .ok (.agg (mv first32)) w' := fun w' => run_build w' 38 _ _ Tryd.built38
  have h1 := heap_alloc2_new w (.cells (mv zero32) 38) (.cells (mv zero32) 38)
  have h0 := heap_alloc2_old w (.cells (mv zero32) 38) (.cells (mv zero32) 38)
  clear hs38 hsz
  go_enter Tryd.func17, Tryd.ntmps17
  go_wp2_with (refine wpList_store_row rfl 38 _ _ rfl (w.heap.size + 1) (mv first32) rfl rfl 38 (mv zero32) h1 (HI.out first32 rfl) rfl (mv_one first32) ?_)
  go_loopw [2] (fun i wr => ∃ (k : Nat) (cur : List Nat), 0 < k ∧ k ≤ 32 ∧ i = .int .i64 k ∧ DgAt k cur ∧ (∃ o, wr.heap[w.heap.size]? = some (.cells (mv o) 38 (0, 0)) ∧ o.length = 32) ∧ wr.heap[w.heap.size + 1]? = some (.cells (mv cur) 38 (0, 0)) ∧ Below w.heap.size w wr) (fun i _ => 32 - (intOf i).toNat)
  case atStart =>
    have hbel : Below w.heap.size w ((w.alloc (.cells (mv zero32) 38)).alloc (.cells (mv zero32) 38)) := ((Below.refl _ _).alloc (Nat.le_refl _) _).alloc (by simp) _
    refine ⟨1, first32, by omega, by omega, rfl, ⟨rfl, ?_⟩, ⟨zero32, (setRow_other _ _ _ _ (by omega)).trans h0, rfl⟩, setRow_heap _ _ _ _ _ _ h1, below_setRow hbel (by omega) _⟩
    intro j hj
    obtain rfl : j = 0 := by omega
    decide
  case round =>
    clear h0 h1 hz hbd
    obtain ⟨k, cur, hk0, hk, rfl, hat, ⟨o, g0, ho⟩, g1, hbel⟩ := hrel
    by_cases hlt : k < 32
    · have HN : Hid (DgAt (k + 1) (cur.set k (2 ^ (k - 1)))) := hat.step hk0 hlt
      have hcell := loaded g1 k (by rw [hat.len]; exact hlt)
      have hfree := frozen_of_row _ _ k _ _ g1
      have hkI : (k : Int) < 32 := by omega
      have hp := pow_lt32 (k - 1) (by omega)
      obtain ⟨q, hq⟩ : ∃ q, k = q + 1 := ⟨k - 1, by omega⟩
      subst hq
      rw [Nat.add_sub_cancel] at HN hp
      generalize cur.getD (q + 1) 0 = c0 at *
      clear hat
      have hv := pow_mod q hp
      go_wp2
      have e0 := heap_setCell_other wr ⟨w.heap.size + 1, q + 1, none⟩ w.heap.size (.int .u32 ((2 ^ q : Nat) : Int)) (by show w.heap.size ≠ w.heap.size + 1; omega)
      have e1 := heap_setCell_same wr (w.heap.size + 1) (q + 1) (mv cur) 38 (.int .u32 ((2 ^ q : Nat) : Int)) g1
      rw [← mv_set] at e1
      exact ⟨⟨q + 1 + 1, cur.set (q + 1) (2 ^ q), by omega, by omega, by go_num, HN.out, ⟨o, e0.trans g0, ho⟩, e1, hbel.setCell (by show w.heap.size ≤ w.heap.size + 1; omega) _⟩, by simp [intOf]; omega⟩
    · obtain rfl : k = 32 := by omega
      have HD := hat.done
      subst HD
      clear hat
      have K1 : Hid (∀ w', Calls Tryd.prog 19 #[.agg (mv (mat 1))] w' fun e w1 => e = .returned (.agg (mv (mat 2))) ∧ Below w'.heap.size w' w1) := sq_call 1
      have K2 : Hid (∀ w', Calls Tryd.prog 19 #[.agg (mv (mat 2))] w' fun e w1 => e = .returned (.agg (mv (mat 4))) ∧ Below w'.heap.size w' w1) := sq_call 2
      have K4 : Hid (∀ w', Calls Tryd.prog 19 #[.agg (mv (mat 4))] w' fun e w1 => e = .returned (.agg (mv (mat 8))) ∧ Below w'.heap.size w' w1) := sq_call 4
      have HL1 := mat_len 1
      have HL8 : Hid ((mat 8).length = 32) := mat_len 8
      have HI1 : Hid _ := HI.out _ HL1
      have HI8 : Hid _ := HI.out _ HL8.out
      clear HL1
      have tok1 : True := trivial
      have tok2 : True := trivial
      generalize mat 1 = A1 at *
      generalize mat 2 = A2 at *
      generalize mat 4 = A4 at *
      generalize hA8 : mat 8 = A8 at *
      have HA8 : Hid (mat 8 = A8) := hA8
      clear hA8
      go_wp2_with (first
        | (refine wpList_load_row rfl 38 _ rfl (w.heap.size + 1) rfl 38 (mv A1) (0, 0) _ g1 Tryd.underlying38 rfl HI1.out ?_)
        | (go_at_call 19; have _t := tok1; refine (K1.out _).mono ?_; clear tok1 _t; rintro e w1 ⟨rfl, hb1⟩; have g0 := Below.blk hb1 g0; have hbel : Below w.heap.size w w1 := hbel.trans (hb1.mono hbel.size); clear hb1)
        | (go_at_call 19; have _t := tok2; refine (K2.out _).mono ?_; clear tok2 _t; rintro e w2 ⟨rfl, hb1⟩; have g0 := Below.blk hb1 g0; have hbel : Below w.heap.size w w2 := hbel.trans (hb1.mono hbel.size); clear hb1)
        | (go_at_call 19; refine (K4.out _).mono ?_; rintro e w3 ⟨rfl, hb1⟩; have g0 := Below.blk hb1 g0; have hbel : Below w.heap.size w w3 := hbel.trans (hb1.mono hbel.size); clear hb1)
        | (refine wpList_store_row rfl 38 _ _ rfl w.heap.size (mv A8) rfl rfl 38 (mv o) g0 HI8.out (by rw [mv_size, mv_size, ho, HL8.out]) (mv_one A8) ?_))
      refine bodyPost_ret (v := .agg (mv A8)) ?_ rfl ⟨by rw [HA8.out], below_setRow hbel (Nat.le_refl _) _⟩
      exact results_cell_row (by rfl) _ _ w.heap.size 38 (mv A8) (0, 0) _ rfl (setRow_heap _ _ _ _ _ _ g0) Tryd.underlying38 rfl HI8.out
end Go.Proofs.YtkbimkpbpbjafaaDoor
