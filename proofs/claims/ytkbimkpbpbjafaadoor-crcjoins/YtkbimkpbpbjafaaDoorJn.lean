/- Join: crc's and the document's own, for any two words and any n. -/
import Derived.Test.YtkbimkpbpbjafaaDoorZrb
namespace Go.Proofs.YtkbimkpbpbjafaaDoor
set_option linter.unusedSimpArgs false
set_option linter.unusedVariables false
open Go.RowKit
/-- The first goes on by n noughts, and the second is laid over it. -/
def join (a b : Nat) (n : Int) : Nat := if n < 1 then a else P.shN (8 * n.toNat) a ^^^ b
theorem join_lt (a b : Nat) (n : Int) (ha : a < 4294967296) (hb : b < 4294967296) : join a b n < 4294967296 := by
  unfold join
  split
  · exact ha
  · exact xor_lt32 (P.shN_lt _ _ ha) hb
theorem times_call (n c : Nat) (w : World) (hc : c < 4294967296) : Calls Tryd.prog 18 #[.agg (mv (mat n)), .int .u32 c] w fun e w' => e = .returned (.int .u32 ((P.shN n c : Nat) : Int)) ∧ Below w.heap.size w w' := by
  have := times_any (mat n) c w (mat_len n) (mat_bd n) hc
  rw [tl_all n c hc] at this
  exact this
theorem and1u (c : Nat) (h : c < 18446744073709551616) : bits .and .u64 (c : Int) 1 = ((c % 2 : Nat) : Int) := by
  have := u64_and_nat c 1 h (by decide)
  rw [nat_mask1] at this
  exact this
/-- The rest that is still to be passed over. -/
structure JAt (out E A L : Nat) : Prop where
  lt : A < 4294967296
  bd : L < 18446744073709551616
  go : P.shN (E * L) A = out
theorem JAt.odd {out E A L : Nat} (h : JAt out E A L) (h1 : L % 2 = 1) : JAt out (E + E) (P.shN E A) (L / 2) := by
  refine ⟨P.shN_lt _ _ h.lt, by have := h.bd; omega, ?_⟩
  rw [← h.go, ← P.shN_add]
  congr 1
  conv => rhs; rw [show L = 2 * (L / 2) + 1 by omega]
  rw [Nat.mul_add, Nat.mul_one, ← Nat.mul_assoc, Nat.mul_two, Nat.add_comm]
theorem JAt.even {out E A L : Nat} (h : JAt out E A L) (h1 : L % 2 = 0) : JAt out (E + E) A (L / 2) := by
  refine ⟨h.lt, by have := h.bd; omega, ?_⟩
  rw [← h.go]
  congr 1
  conv => rhs; rw [show L = 2 * (L / 2) by omega]
  rw [← Nat.mul_assoc, Nat.mul_two]
set_option maxRecDepth 100000 in
set_option maxHeartbeats 800000 in
theorem join_any (a b : Nat) (n : Int) (w : World) (ha : a < 4294967296) (hb : b < 4294967296) (hn0 : -9223372036854775808 ≤ n) (hn : n ≤ 9223372036854775807) :
    Calls Tryd.prog 14 #[.int .u32 a, .int .u32 b, .int .i64 n] w fun e w' => e = .returned (.int .u32 ((join a b n : Nat) : Int)) ∧ Below w.heap.size w w' := by
  by_cases h1 : n < 1
  · have HJ : Hid (join a b n = a) := by show _ = _; simp [join, h1]
    rw [HJ.out]
    go_enter Tryd.func14, Tryd.ntmps14
    go_wp2
    go_ret
    exact ⟨rfl, Below.refl _ _⟩
  obtain ⟨m, rfl⟩ := Int.eq_ofNat_of_zero_le (show 0 ≤ n by omega)
  obtain ⟨out, HO⟩ : ∃ out, Hid (P.shN (8 * m) a = out) := ⟨_, rfl⟩
  have HJ : Hid (join a b m = out ^^^ b) := by show _ = _; rw [join, if_neg h1, Int.toNat_natCast, HO.out]
  rw [HJ.out]
  obtain ⟨hz, hsz⟩ := zero_of_info Tryd.zero38
  have hs38 : ∀ l : List Nat, l.length = 32 → (Tryd.prog.info? 38).map (·.size) = some (mv l).size := by intro l hl; rw [mv_size, hl]; exact hsz
  have HI : Hid (∀ l : List Nat, l.length = 32 → (Tryd.prog.info? 38).map (·.size) = some (mv l).size) := hs38
  have hJ0 : JAt out 8 a m := ⟨ha, by omega, HO.out⟩
  have hol : out < 4294967296 := by rw [← HO.out]; exact P.shN_lt _ _ ha
  have hxo := xor32 out b hol hb
  clear hs38 hsz HJ hn0
  go_enter Tryd.func14, Tryd.ntmps14
  go_wp2_with (first
    | (go_at_call 17; refine (zeroByte_any _).mono ?_; rintro e w1 ⟨rfl, hb1⟩; have g1 := heap_alloc_new w1 (.cells (mv zero32) 38))
    | (refine wpList_store_row rfl 38 _ _ rfl w1.heap.size (mv (mat 8)) rfl rfl 38 (mv zero32) g1 (HI.out _ (mat_len 8)) (by rw [mv_size, mv_size, mat_len]; rfl) (mv_one _) ?_))
  go_loopw [0, 8] (fun v l wr => ∃ (E A L : Nat), v = .int .u32 A ∧ l = .int .u64 L ∧ JAt out E A L ∧ wr.heap[w1.heap.size]? = some (.cells (mv (mat E)) 38 (0, 0)) ∧ Below w.heap.size w wr) (fun _ l _ => (intOf l).toNat)
  case atStart => exact ⟨8, a, m, rfl, rfl, hJ0, setRow_heap _ _ _ _ _ _ g1, below_setRow (hb1.alloc hb1.size _) hb1.size _⟩
  case round =>
    have hsz := hb1.size
    clear hz g1 hJ0 HO hb1
    obtain ⟨E, A, L, rfl, rfl, hat, g0, hbel⟩ := hrel
    by_cases h0 : L = 0
    · subst h0
      have HN : Hid (A = out) := by show _ = _; rw [← hat.go, Nat.mul_zero]; rfl
      clear hat
      rw [HN.out]
      go_wp2
      go_ret
      exact ⟨rfl, hbel⟩
    · have hLb := hat.bd
      have hA := hat.lt
      have hLI : 0 < (L : Int) := by omega
      have h1' := and1u L hLb
      have HLE : Hid ((mat E).length = 32) := mat_len E
      have HIE : Hid _ := HI.out _ (mat_len E)
      have HIE2 : Hid _ := HI.out _ (mat_len (E + E))
      have HSZ : Hid ((mv (mat E)).size = (mv (mat (E + E))).size) := by show _ = _; rw [mv_size, mv_size, mat_len, mat_len]
      have HSQ : Hid (∀ w', Calls Tryd.prog 19 #[.agg (mv (mat E))] w' fun e w1 => e = .returned (.agg (mv (mat (E + E)))) ∧ Below w'.heap.size w' w1) := sq_call E
      have HTM : Hid (∀ w', Calls Tryd.prog 18 #[.agg (mv (mat E)), .int .u32 A] w' fun e w1 => e = .returned (.int .u32 ((P.shN E A : Nat) : Int)) ∧ Below w'.heap.size w' w1) := fun w' => times_call E A w' hA
      rcases Nat.mod_two_eq_zero_or_one L with hp | hp
      · have HN : Hid (JAt out (E + E) A (L / 2)) := hat.even hp
        rw [hp] at h1'
        clear hat HTM
        go_wp2_with (first
          | (refine wpList_load_row rfl 38 _ rfl w1.heap.size rfl 38 (mv (mat E)) (0, 0) _ g0 Tryd.underlying38 rfl HIE.out ?_)
          | (go_at_call 19; refine (HSQ.out _).mono ?_; rintro e w3 ⟨rfl, hb3⟩; have g0 := Below.blk hb3 g0; have hbel : Below w.heap.size w w3 := hbel.trans (hb3.mono hbel.size); clear hb3)
          | (refine wpList_store_row rfl 38 _ _ rfl w1.heap.size (mv (mat (E + E))) rfl rfl 38 (mv (mat E)) g0 HIE2.out HSZ.out (mv_one _) ?_))
        exact ⟨⟨E + E, A, L / 2, by go_num, by go_num, HN.out, setRow_heap _ _ _ _ _ _ g0, below_setRow hbel hsz _⟩, by simp [intOf]; omega⟩
      · have HN : Hid (JAt out (E + E) (P.shN E A) (L / 2)) := hat.odd hp
        rw [hp] at h1'
        clear hat
        generalize P.shN E A = A2 at *
        go_wp2_with (first
          | (refine wpList_load_row rfl 38 _ rfl w1.heap.size rfl 38 (mv (mat E)) (0, 0) _ g0 Tryd.underlying38 rfl HIE.out ?_)
          | (go_at_call 18; refine (HTM.out _).mono ?_; rintro e w2 ⟨rfl, hb2⟩; have g0 := Below.blk hb2 g0; have hbel : Below w.heap.size w w2 := hbel.trans (hb2.mono hbel.size); clear hb2)
          | (go_at_call 19; refine (HSQ.out _).mono ?_; rintro e w3 ⟨rfl, hb3⟩; have g0 := Below.blk hb3 g0; have hbel : Below w.heap.size w w3 := hbel.trans (hb3.mono hbel.size); clear hb3)
          | (refine wpList_store_row rfl 38 _ _ rfl w1.heap.size (mv (mat (E + E))) rfl rfl 38 (mv (mat E)) g0 HIE2.out HSZ.out (mv_one _) ?_))
        exact ⟨⟨E + E, A2, L / 2, by go_num, by go_num, HN.out, setRow_heap _ _ _ _ _ _ g0, below_setRow hbel hsz _⟩, by simp [intOf]; omega⟩
theorem stp_zero (c : Nat) : P.stp c 0 = P.shN 8 c := by simp [P.stp]
theorem rjoin_any (a b : Nat) (n : Int) (w : World) (ha : a < 4294967296) (hb : b < 4294967296) (hn0 : -9223372036854775808 ≤ n) (hn : n ≤ 9223372036854775807) :
    Calls Tryd.prog 15 #[.int .u32 a, .int .u32 b, .int .i64 n] w fun e w' => e = .returned (.int .u32 ((join a b n : Nat) : Int)) ∧ w' = w := by
  by_cases h1 : n < 1
  · have HJ : Hid (join a b n = a) := by show _ = _; simp [join, h1]
    rw [HJ.out]
    go_enter Tryd.func15, Tryd.ntmps15
    go_wp2
    go_ret
    exact ⟨rfl, rfl⟩
  obtain ⟨m, rfl⟩ := Int.eq_ofNat_of_zero_le (show 0 ≤ n by omega)
  obtain ⟨out, HO⟩ : ∃ out, Hid (P.shN (8 * m) a = out) := ⟨_, rfl⟩
  have HJ : Hid (join a b m = out ^^^ b) := by show _ = _; rw [join, if_neg h1, Int.toNat_natCast, HO.out]
  rw [HJ.out]
  have hol : out < 4294967296 := by rw [← HO.out]; exact P.shN_lt _ _ ha
  have hxo := xor32 out b hol hb
  clear HJ hn0
  go_enter Tryd.func15, Tryd.ntmps15
  go_wp2
  go_loop [0, 7] (fun v i => ∃ (k A : Nat), k ≤ m ∧ v = .int .u32 A ∧ i = .int .i64 k ∧ A < 4294967296 ∧ P.shN (8 * (m - k)) A = out) (fun _ i => m - (intOf i).toNat)
  case atStart => exact ⟨0, a, by omega, rfl, rfl, ha, HO.out⟩
  case round =>
    obtain ⟨k, A, hk, rfl, rfl, hA, hs⟩ := hrel
    by_cases hlt : k < m
    · have HN : Hid (P.shN (8 * (m - (k + 1))) (P.stp A 0) = out) := by
        show _ = _
        rw [← hs, stp_zero, ← P.shN_add]
        congr 1
        omega
      have hl := P.stp_lt A 0 hA (by decide)
      have hI : (k : Int) < (m : Int) := by omega
      have HS : Hid (∀ w', Calls Tryd.prog 16 #[.int .u32 A, .int .u8 ((0 : Nat) : Int)] w' fun e w1 => e = .returned (.int .u32 ((P.stp A 0 : Nat) : Int)) ∧ w1 = w') := fun w' => step_any A 0 w' hA (by decide)
      clear hs
      generalize P.stp A 0 = D at *
      go_wp2_with (go_at_call 16; refine (HS.out _).mono ?_; rintro e w' ⟨rfl, rfl⟩)
      exact ⟨⟨k + 1, D, by omega, by go_num, by go_num, hl, HN.out⟩, by simp [intOf]; omega⟩
    · obtain rfl : k = m := by omega
      have HN : Hid (A = out) := by show _ = _; rw [← hs, Nat.sub_self]; rfl
      clear hs
      rw [HN.out]
      go_wp2
      go_ret
      exact ⟨rfl, rfl⟩
end Go.Proofs.YtkbimkpbpbjafaaDoor
