/- The statement's own does. -/
import Derived.Test.YtlieckifnkngnaaSm
namespace Go.Proofs.Ytlieckifnkngnaa
set_option linter.unusedSimpArgs false
set_option linter.unusedVariables false
open Go.RowKit Go.MapKept
theorem wrote_ops (d : Dv) (k : Int) (c : List Nat) : (d.wrote k c).ops = d.ops + 1 := by
  unfold Dv.wrote; split <;> simp [Dv.add, Dv.tick]
theorem flushed_ops (d : Dv) : d.flushed.ops = d.ops + 1 := by
  unfold Dv.flushed; split <;> simp [Dv.flush, Dv.tick]
section
variable {B : Nat} {w w' : World} {p q g : Nat} {dp dr d : Dv} {c : List Nat} {E : List Nat}
theorem two_wn (h : Two B w p dp q dr E) (hg : g ∈ E) (hc : Full w g 5 c) (n : Nat) (hn : c.length = n) (k : Int) (hb : ∀ i, c.getD i 0 < 256) (hlen : n ≤ 1000000) (ho : dp.ops < 1000000) :
    Calls Try.prog 22 #[.pointer (some ⟨p, 0, none⟩), .int .i64 k, .slice (some ⟨g, 0, none⟩) n n] w fun e w' => e = .returned (.int .i64 (dp.wcode k n)) ∧ Two B w' p (dp.wrote k c) q dr E ∧ Same E w w' ∧ Below B w w' := by
  subst hn; exact two_w h hg hc k hb hlen ho
theorem two_rn (h : Two B w p dp q dr E) (hg : g ∈ E) (hc : Full w g 5 c) (n : Nat) (hn : c.length = n) (k : Int) (hb : ∀ i, c.getD i 0 < 256) (hlen : n ≤ 1000000) (ho : dr.ops < 1000000) :
    Calls Try.prog 29 #[.pointer (some ⟨q, 0, none⟩), .int .i64 k, .slice (some ⟨g, 0, none⟩) n n] w fun e w' => e = .returned (.int .i64 (dr.wcode k n)) ∧ Two B w' p dp q (dr.wrote k c) E ∧ Same E w w' ∧ Below B w w' := by
  subst hn; exact two_r h hg hc k hb hlen ho
/-- What is true behind a step. -/
def DoesPost (B : Nat) (w : World) (d : Dv) (e : Ending) (w' : World) : Prop :=
  ∃ p' q' d', e = .returned (.tuple #[.pointer (some ⟨p', 0, none⟩), .pointer (some ⟨q', 0, none⟩), .bool true]) ∧ Two B w' p' d' q' d' [] ∧ d'.ops ≤ d.ops + 1 ∧ Below B w w'
theorem two_base (h : Two B w p dp q dr E) : B ≤ w.heap.size := by
  obtain ⟨gB, cB, gP, cP, bs, ps, rs, G, last, hF, hR, hB, hE⟩ := h
  exact hB
theorem step_cells (w : World) (K A Bv : Int) (v : Value) : (w.alloc (.cells #[.int .i64 K, .int .i64 A, .int .i64 Bv, v] 36)).cell? ⟨w.heap.size, 0, none⟩ = some (.int .i64 K) ∧ (w.alloc (.cells #[.int .i64 K, .int .i64 A, .int .i64 Bv, v] 36)).cell? ⟨w.heap.size, 1, none⟩ = some (.int .i64 A) ∧ (w.alloc (.cells #[.int .i64 K, .int .i64 A, .int .i64 Bv, v] 36)).cell? ⟨w.heap.size, 2, none⟩ = some (.int .i64 Bv) ∧ (w.alloc (.cells #[.int .i64 K, .int .i64 A, .int .i64 Bv, v] 36)).cell? ⟨w.heap.size, 3, none⟩ = some v := by
  refine ⟨?_, ?_, ?_, ?_⟩ <;> rw [cell_of_row _ _ _ _ _ _ (heap_alloc_new w _)] <;> rfl
set_option maxRecDepth 100000 in
set_option maxHeartbeats 4000000 in
theorem does_1 (h : Two B w p d q d []) (A Bv : Int) (v : Value) (ho : d.ops < 1000) :
    Calls Try.prog 15 #[.pointer (some ⟨p, 0, none⟩), .pointer (some ⟨q, 0, none⟩), .agg #[.int .i64 1, .int .i64 A, .int .i64 Bv, v]] w (DoesPost B w d) := by
  obtain ⟨s0, s1, s2, s3⟩ := step_cells w 1 A Bv v
  have hb0 : Below w.heap.size w (w.alloc (.cells #[.int .i64 1, .int .i64 A, .int .i64 Bv, v] 36)).drew := ((Below.refl _ _).alloc (Nat.le_refl _) _).drew
  have T1 := h.add hb0 (Nat.le_refl _) (show w.heap.size < (w.alloc (.cells #[.int .i64 1, .int .i64 A, .int .i64 Bv, v] 36)).heap.size by rw [size_alloc]; omega)
  have hB := two_base h
  have HO : Hid (d.ops < 1000000) := by show _ < _; omega
  obtain ⟨z, HZ⟩ : ∃ z, Hid (d.wcode A 512 = z) := ⟨_, rfl⟩
  clear h
  have tok : True := trivial
  unfold DoesPost
  go_enter Try.func15, Try.ntmps15
  go_wp2
  go_region_held3 (fun x => x.cell? ⟨w.heap.size, 1, none⟩ = some (.int .i64 A) ∧ x.cell? ⟨w.heap.size, 2, none⟩ = some (.int .i64 Bv)) (first | assumption | exact ⟨s1, s2⟩) (first
    | (go_at_call 20; have _t := tok; refine (block_any _ _).mono ?_; rintro e v1 ⟨g1, rfl, f1, l1, b1⟩; have y1 := Same.below T1.lt b1; have T2 := T1.add b1 l1 f1.lt; have S2 : v1.cell? ⟨w.heap.size, 1, none⟩ = some (.int .i64 A) ∧ v1.cell? ⟨w.heap.size, 2, none⟩ = some (.int .i64 Bv) := ⟨(cell_blk (y1 _ (by simp))).trans s1, (cell_blk (y1 _ (by simp))).trans s2⟩; clear tok _t)
    | (go_at_call 22; refine (two_wn T2 (by simp) f1 512 (bb_len _) A (bb_lt _) (by decide) HO.out).mono ?_; rintro e v2 ⟨rfl, T3, y2, b2⟩; rw [HZ.out]; have S3 : v2.cell? ⟨w.heap.size, 1, none⟩ = some (.int .i64 A) ∧ v2.cell? ⟨w.heap.size, 2, none⟩ = some (.int .i64 Bv) := ⟨(cell_blk (y2 _ (by simp))).trans S2.1, (cell_blk (y2 _ (by simp))).trans S2.2⟩)
    | (go_at_call 20; refine (block_any _ _).mono ?_; rintro e v3 ⟨g3, rfl, f3, l3, b3⟩; have y3 := Same.below T3.lt b3; have T4 := T3.add b3 l3 f3.lt; have S4 : v3.cell? ⟨w.heap.size, 1, none⟩ = some (.int .i64 A) ∧ v3.cell? ⟨w.heap.size, 2, none⟩ = some (.int .i64 Bv) := ⟨(cell_blk (y3 _ (by simp))).trans S3.1, (cell_blk (y3 _ (by simp))).trans S3.2⟩)
    | (go_at_call 29; refine (two_rn T4 (by simp) f3 512 (bb_len _) A (bb_lt _) (by decide) HO.out).mono ?_; rintro e v4 ⟨rfl, T5, y4, b4⟩; rw [HZ.out]; have S5 : v4.cell? ⟨w.heap.size, 1, none⟩ = some (.int .i64 A) ∧ v4.cell? ⟨w.heap.size, 2, none⟩ = some (.int .i64 Bv) := ⟨(cell_blk (y4 _ (by simp))).trans S4.1, (cell_blk (y4 _ (by simp))).trans S4.2⟩))
  all_goals (go_wp2; go_ret3)
  refine ⟨p, q, d.wrote A (bb Bv), ?_, T5.drop (by simp), by rw [wrote_ops]; omega, ?_⟩
  · simp
  · exact (((((hb0.mono hB).trans (b1.mono (by have := hb0.size; omega))).trans b2).trans (b3.mono (two_base T3))).trans b4)
set_option maxRecDepth 100000 in
set_option maxHeartbeats 4000000 in
theorem does_2 (h : Two B w p d q d []) (A Bv : Int) (v : Value) (ho : d.ops < 1000) :
    Calls Try.prog 15 #[.pointer (some ⟨p, 0, none⟩), .pointer (some ⟨q, 0, none⟩), .agg #[.int .i64 2, .int .i64 A, .int .i64 Bv, v]] w (DoesPost B w d) := by
  obtain ⟨s0, s1, s2, s3⟩ := step_cells w 2 A Bv v
  have hb0 : Below w.heap.size w (w.alloc (.cells #[.int .i64 2, .int .i64 A, .int .i64 Bv, v] 36)) := (Below.refl _ _).alloc (Nat.le_refl _) _
  have T1 := h.add hb0 (Nat.le_refl _) (show w.heap.size < (w.alloc (.cells #[.int .i64 2, .int .i64 A, .int .i64 Bv, v] 36)).heap.size by rw [size_alloc]; omega)
  have hB := two_base h
  have HO : Hid (d.ops < 1000000) := by show _ < _; omega
  unfold DoesPost
  obtain ⟨z, HZ⟩ : ∃ z : Int, Hid ((if d.on then 0 else 9) = z) := ⟨_, rfl⟩
  clear h
  go_enter Try.func15, Try.ntmps15
  go_wp2_with (first
    | (go_at_call 23; refine (two_f T1 HO.out).mono ?_; rintro e v1 ⟨rfl, T2, y1, b1⟩; rw [HZ.out])
    | (go_at_call 30; refine (two_rf T2 HO.out).mono ?_; rintro e v2 ⟨rfl, T3, y2, b2⟩; rw [HZ.out]))
  go_ret3
  refine ⟨p, q, d.flushed, ?_, T3.drop (by simp), by rw [flushed_ops]; omega, ?_⟩
  · simp
  · exact ((hb0.mono hB).trans b1).trans b2
set_option maxRecDepth 100000 in
set_option maxHeartbeats 4000000 in
theorem does_3 (h : Two B w p d q d []) (A Bv : Int) (v : Value) (hA : A ≤ 9223372036854775807) (ho : d.ops < 1000) :
    Calls Try.prog 15 #[.pointer (some ⟨p, 0, none⟩), .pointer (some ⟨q, 0, none⟩), .agg #[.int .i64 3, .int .i64 A, .int .i64 Bv, v]] w (DoesPost B w d) := by
  obtain ⟨s0, s1, s2, s3⟩ := step_cells w 3 A Bv v
  have hb0 : Below w.heap.size w (w.alloc (.cells #[.int .i64 3, .int .i64 A, .int .i64 Bv, v] 36)) := (Below.refl _ _).alloc (Nat.le_refl _) _
  have T1 := h.add hb0 (Nat.le_refl _) (show w.heap.size < (w.alloc (.cells #[.int .i64 3, .int .i64 A, .int .i64 Bv, v] 36)).heap.size by rw [size_alloc]; omega)
  have hB := two_base h
  have HO : Hid (d.ops < 1000000) := by show _ < _; omega
  unfold DoesPost
  clear h
  go_enter Try.func15, Try.ntmps15
  go_wp2_with (first
    | (go_at_call 21; refine (two_cut T1 A hA).mono ?_; rintro e v1 ⟨⟨u1, rfl⟩, T2, y1, b1⟩; have s1' := (cell_blk (i := 1) (y1 _ (by simp))).trans s1)
    | (go_at_call 31; refine (two_rcut T2 HO.out A hA).mono ?_; rintro e v2 ⟨⟨u2, rfl⟩, T3, y2, b2⟩))
  go_ret3
  refine ⟨p, q, d.cutAt A, ?_, T3.drop (by simp), by simp [Dv.cutAt], ?_⟩
  · simp
  · exact ((hb0.mono hB).trans b1).trans b2
set_option maxRecDepth 100000 in
set_option maxHeartbeats 4000000 in
theorem does_5 (h : Two B w p d q d []) (A Bv : Int) (v : Value) (ho : d.ops < 1000) :
    Calls Try.prog 15 #[.pointer (some ⟨p, 0, none⟩), .pointer (some ⟨q, 0, none⟩), .agg #[.int .i64 5, .int .i64 A, .int .i64 Bv, v]] w (DoesPost B w d) := by
  obtain ⟨s0, s1, s2, s3⟩ := step_cells w 5 A Bv v
  have hb0 : Below w.heap.size w (w.alloc (.cells #[.int .i64 5, .int .i64 A, .int .i64 Bv, v] 36)) := (Below.refl _ _).alloc (Nat.le_refl _) _
  have T1 := h.add hb0 (Nat.le_refl _) (show w.heap.size < (w.alloc (.cells #[.int .i64 5, .int .i64 A, .int .i64 Bv, v] 36)).heap.size by rw [size_alloc]; omega)
  have hB := two_base h
  have HO : Hid (d.ops < 1000000) := by show _ < _; omega
  unfold DoesPost
  clear h
  go_enter Try.func15, Try.ntmps15
  go_wp2_with (first
    | (go_at_call 26; refine (two_y T1).mono ?_; rintro e v1 ⟨p1, rfl, T2, b1⟩)
    | (go_at_call 33; refine (two_ry T2).mono ?_; rintro e v2 ⟨q1, rfl, T3, b2⟩))
  go_ret3
  refine ⟨p1, q1, d, ?_, T3.drop (by simp), by omega, ?_⟩
  · simp
  · exact ((hb0.mono hB).trans (b1.mono (two_base T1))).trans (b2.mono (two_base T2))
set_option maxRecDepth 100000 in
set_option maxHeartbeats 4000000 in
theorem does_4 (h : Two B w p d q d []) (A Bv : Int) (a : Option Addr) (l : List Int) (cap : Nat) (hl : RowI w a l) (hll : l.length ≤ 9223372036854775807) (ho : d.ops < 1000) :
    Calls Try.prog 15 #[.pointer (some ⟨p, 0, none⟩), .pointer (some ⟨q, 0, none⟩), .agg #[.int .i64 4, .int .i64 A, .int .i64 Bv, (.slice a l.length cap)]] w (DoesPost B w d) := by
  obtain ⟨s0, s1, s2, s3⟩ := step_cells w 4 A Bv (.slice a l.length cap)
  have hb0 : Below w.heap.size w (w.alloc (.cells #[.int .i64 4, .int .i64 A, .int .i64 Bv, (.slice a l.length cap)] 36)) := (Below.refl _ _).alloc (Nat.le_refl _) _
  have T1 := h.add hb0 (Nat.le_refl _) (show w.heap.size < (w.alloc (.cells #[.int .i64 4, .int .i64 A, .int .i64 Bv, (.slice a l.length cap)] 36)).heap.size by rw [size_alloc]; omega)
  have hB := two_base h
  have HO : Hid (d.ops < 1000000) := by show _ < _; omega
  unfold DoesPost
  have hl1 := hl.below hb0
  have T1d := T1.below (w' := (w.alloc (.cells #[.int .i64 4, .int .i64 A, .int .i64 Bv, (.slice a l.length cap)] 36)).drew) ⟨rfl, rfl, rfl, Nat.le_refl _, fun _ _ => rfl⟩
  have hl1d : RowI (w.alloc (.cells #[.int .i64 4, .int .i64 A, .int .i64 Bv, (.slice a l.length cap)] 36)).drew a l := hl1
  clear h
  go_enter Try.func15, Try.ntmps15
  go_wp2
  go_region_held3 (fun x => x.cell? ⟨w.heap.size, 3, none⟩ = some (.slice a l.length cap)) (first | assumption | exact s3) (first
    | (go_at_call 25; refine (two_c T1d a l cap hl1d hll).mono ?_; rintro e v1 ⟨p1, rfl, T2, b1⟩; have hl2 := hl1d.below b1; have y1 := Same.below T1d.lt b1; have S2 : v1.cell? ⟨w.heap.size, 3, none⟩ = some (.slice a l.length cap) := (cell_blk (y1 _ (by simp))).trans s3)
    | (go_at_call 32; refine (two_rc T2 a l cap hl2 hll).mono ?_; rintro e v2 ⟨q1, rfl, T3, b2⟩; have y2 := Same.below T2.lt b2; have S3 : v2.cell? ⟨w.heap.size, 3, none⟩ = some (.slice a l.length cap) := (cell_blk (y2 _ (by simp))).trans S2))
  all_goals (go_wp2; go_ret3)
  refine ⟨p1, q1, d.crash l, ?_, T3.drop (by simp), by simp [Dv.crash, fresh], ?_⟩
  · simp
  · exact (((hb0.mono hB).drew).trans (b1.mono (two_base T1d))).trans (b2.mono (two_base T2))
set_option maxRecDepth 100000 in
set_option maxHeartbeats 4000000 in
theorem does_0 (h : Two B w p d q d []) (K A Bv : Int) (v : Value) (hK : K < 1 ∨ 6 < K) (ho : d.ops < 1000) :
    Calls Try.prog 15 #[.pointer (some ⟨p, 0, none⟩), .pointer (some ⟨q, 0, none⟩), .agg #[.int .i64 K, .int .i64 A, .int .i64 Bv, v]] w (DoesPost B w d) := by
  obtain ⟨s0, s1, s2, s3⟩ := step_cells w K A Bv v
  have hb0 : Below w.heap.size w (w.alloc (.cells #[.int .i64 K, .int .i64 A, .int .i64 Bv, v] 36)) := (Below.refl _ _).alloc (Nat.le_refl _) _
  have T1 := h.add hb0 (Nat.le_refl _) (show w.heap.size < (w.alloc (.cells #[.int .i64 K, .int .i64 A, .int .i64 Bv, v] 36)).heap.size by rw [size_alloc]; omega)
  have hB := two_base h
  have HO : Hid (d.ops < 1000000) := by show _ < _; omega
  unfold DoesPost
  have k1 : ¬ K = 1 := by omega
  have k2 : ¬ K = 2 := by omega
  have k3 : ¬ K = 3 := by omega
  have k4 : ¬ K = 4 := by omega
  have k5 : ¬ K = 5 := by omega
  have k6 : ¬ K = 6 := by omega
  clear h
  go_enter Try.func15, Try.ntmps15
  go_wp2
  go_ret3
  refine ⟨p, q, d, ?_, T1.drop (by simp), by omega, hb0.mono hB⟩
  simp
set_option maxRecDepth 100000 in
set_option maxHeartbeats 4000000 in
theorem does_6 (h : Two B w p d q d []) (A Bv : Int) (v : Value) (hA1 : -9223372036854775808 ≤ A) (hA2 : A ≤ 9223372036854775807) (ho : d.ops < 1000) :
    Calls Try.prog 15 #[.pointer (some ⟨p, 0, none⟩), .pointer (some ⟨q, 0, none⟩), .agg #[.int .i64 6, .int .i64 A, .int .i64 Bv, v]] w (DoesPost B w d) := by
  obtain ⟨s0, s1, s2, s3⟩ := step_cells w 6 A Bv v
  have hb0 : Below w.heap.size w (w.alloc (.cells #[.int .i64 6, .int .i64 A, .int .i64 Bv, v] 36)) := (Below.refl _ _).alloc (Nat.le_refl _) _
  have T1 := h.add hb0 (Nat.le_refl _) (show w.heap.size < (w.alloc (.cells #[.int .i64 6, .int .i64 A, .int .i64 Bv, v] 36)).heap.size by rw [size_alloc]; omega)
  have hB := two_base h
  have HO : Hid (d.ops < 1000000) := by show _ < _; omega
  unfold DoesPost
  obtain ⟨i0, hi, hz0, hz1, hz2⟩ := info_parts Try.info5
  have hm0 : 0 ≤ A % 600 := Int.emod_nonneg A (by decide)
  have hm1 : A % 600 < 600 := Int.emod_lt_of_pos A (by decide)
  obtain ⟨n, hn⟩ : ∃ n : Nat, (A % 600).toNat = n := ⟨_, rfl⟩
  have hn6 : n < 600 := by omega
  have K27 : Hid (∀ w', Calls Try.prog 27 #[.int .i64 A, .int .i64 600] w' fun e w'' => e = .returned (.int .i64 (n : Int)) ∧ w'' = w') := fun w' => by
    have := round_any A 600 w' hA1 hA2 (by decide) (by decide)
    rw [show ((600 : Nat) : Int) = 600 from rfl, hn] at this
    exact this
  have hnI : (n : Int) < 600 := by omega
  have xb : i0.bytes * n ≤ 281474976710656 := by rw [hz2]; omega
  obtain ⟨z, HZ⟩ : ∃ z, Hid (d.wcode 0 n = z) := ⟨_, rfl⟩
  have HZL : Hid (∀ i, (List.replicate n 0).getD i 0 < 256) := fun i => by
    simp only [List.getD, List.getElem?_replicate]; split <;> simp
  clear h hm0 hm1 hn
  go_enter Try.func15, Try.ntmps15
  go_wp2_with (first
    | (go_at_call 27; refine (K27.out _).mono ?_; rintro e v1 ⟨rfl, hw⟩; subst v1)
    | (at_make; refine wpList_make_full _ rfl _ _ 39 rfl (w.alloc (.cells #[.int .i64 6, .int .i64 A, .int .i64 Bv, v] 36)).heap.size 5 i0 (.int .u8 0) 1 Try.underlying39 hi hz0 hz1 .i64 .i64 _ _ n rfl rfl rfl rfl xb (by unfold maxLen; omega) (Nat.le_refl _) ?_; intro u1 hown0 hg; have hb1 := below_made hg; have hown := made_own hown0; have T2 := T1.add hb1 (Nat.le_refl _) hown.lt; rw [size_alloc] at T2 hown; clear hown0 hg)
    | (go_at_call 22; refine (two_wn T2 (by simp) hown n List.length_replicate 0 HZL.out (by omega) HO.out).mono ?_; rintro e v2 ⟨rfl, T3, y2, b2⟩; rw [HZ.out])
    | (go_at_call 29; refine (two_rn T3 (by simp) (hown.blk (y2 _ (by simp))) n List.length_replicate 0 HZL.out (by omega) HO.out).mono ?_; rintro e v3 ⟨rfl, T4, y3, b3⟩; rw [HZ.out]))
  go_ret3
  refine ⟨p, q, d.wrote 0 (List.replicate n 0), ?_, T4.drop (by simp), by rw [wrote_ops]; omega, ?_⟩
  · simp
  · exact (((hb0.mono hB).trans (hb1.mono (two_base T1))).trans b2).trans b3
end
end Go.Proofs.Ytlieckifnkngnaa
