/- The walk of DeviceFlush: true for every argument. -/
import Derived.Test.YtlieckifnkngnaaFam
namespace Go.Proofs.Ytlieckifnkngnaa
set_option linter.unusedSimpArgs false
set_option linter.unusedVariables false
open Go.RowKit Go.MapKept
theorem famWb {B : Nat} {w : World} {G : List Nat} {p : Nat} {d : Dv} {r : List (Nat × Dv)} (h : Fam B w G ((p, d) :: r)) (hG : ∀ g ∈ G, g < w.heap.size) (hB : B ≤ w.heap.size) (k : Nat) (hk : k < d.n) (hon : d.on = true) (ho : d.ops < 1000000) (g : Nat) (c : Int) (hc : Full w g 5 (bb c)) :
    Calls Try.prog 22 #[.pointer (some ⟨p, 0, none⟩), .int .i64 (k : Int), .slice (some ⟨g, 0, none⟩) 512 512] w fun e w' => e = .returned (.int .i64 0) ∧ Fam B w' G ((p, d.tick.add k (bb c)) :: r) ∧ Same G w w' ∧ Below B w w' ∧ w.heap.size ≤ w'.heap.size := by
  have := famW h hG hB (k : Int) g (bb c) hc (bb_lt c) (by rw [bb_len]; omega) ho
  rw [bb_len, wcode_ok hon hk, wrote_ok hon hk (bb_len c)] at this
  exact this
theorem cur_add (d : Dv) (k x : Nat) (c : List Nat) : (d.add k c).cur x = if x = k then c else d.cur x := by
  unfold Dv.cur Dv.at Dv.add
  by_cases e : x = k
  · subst e; simp [List.getD]
  · simp [e]
theorem cur_tick (d : Dv) : d.tick.cur = d.cur := rfl
theorem cur_flush (d : Dv) (x : Nat) : d.flush.cur x = d.cur x := by
  simp [Dv.cur, Dv.at, Dv.flush]
theorem cur_fresh (n : Nat) (b : Nat → List Nat) (x : Nat) : (fresh n b).cur x = b x := by
  simp [Dv.cur, Dv.at, fresh]
theorem cur_crash (d : Dv) (l : List Int) (x : Nat) : (d.crash l).cur x = d.crashBase l x := cur_fresh _ _ _
/-- A row of ints that fills its block. -/
def IntsAt (w : World) (g t : Nat) (L : List Int) : Prop := w.heap[g]? = some (.cells (L.map (Value.int .i64)).toArray t (0, 0))
theorem IntsAt.blk {w w' : World} {g t : Nat} {L : List Int} (h : IntsAt w g t L) (e : w'.heap[g]? = w.heap[g]?) : IntsAt w' g t L := e.trans h
theorem IntsAt.lt {w : World} {g t : Nat} {L : List Int} (h : IntsAt w g t L) : g < w.heap.size := (Array.getElem?_eq_some_iff.1 h).1
theorem IntsAt.below {w w' : World} {g t : Nat} {L : List Int} (h : IntsAt w g t L) (hb : Below w.heap.size w w') : IntsAt w' g t L := h.blk (hb.block g h.lt)
theorem IntsAt.cell {w : World} {g t : Nat} {L : List Int} (h : IntsAt w g t L) (i : Nat) (hi : i < L.length) : w.cell? ⟨g, i, none⟩ = some (.int .i64 (L.getD i 0)) := by
  rw [cell_of_row _ _ _ _ _ _ h]
  simp [List.getD, hi]
theorem IntsAt.free {w : World} {g t : Nat} {L : List Int} (h : IntsAt w g t L) (i : Nat) : w.frozen? ⟨g, i, none⟩ = false := frozen_of_row _ _ _ _ _ h
theorem IntsAt.store {w : World} {g t : Nat} {L : List Int} (h : IntsAt w g t L) (i : Nat) (v : Int) : IntsAt (w.setCell ⟨g, i, none⟩ (.int .i64 v)) g t (L.set i v) := by
  unfold IntsAt
  rw [heap_setCell_same _ _ _ _ _ _ h]
  simp [List.map_set]
theorem Keeps.ofSet (w : World) (g i : Nat) (v : Value) (G : List Nat) (hg : g ∈ G) : Keeps G w (w.setCell ⟨g, i, none⟩ v) := (Keeps.refl G w).setCell _ _ (.inl hg)
/-- The writes so far, and the last one of each block. -/
structure Good (m : Nat) (d : Dv) (j : Nat) (L : List Int) : Prop where
  n : d.n = m
  cut : d.cut = false
  ops : d.ops = j
  len : L.length = m
  cur : ∀ k, k < m → d.cur k = bb (L.getD k 0)
theorem Good.on {m : Nat} {d : Dv} {j : Nat} {L : List Int} (h : Good m d j L) : d.on = true := by simp [Dv.on, h.cut]
theorem Good.start (m : Nat) : Good m (fresh m fun _ => zeros) 0 (List.replicate m 0) :=
  ⟨rfl, rfl, rfl, by simp, fun k hk => by rw [cur_fresh, ← bb0]; simp [List.getD, hk]⟩
theorem getD_setI (L : List Int) (i k : Nat) (v : Int) (hi : i < L.length) : (L.set i v).getD k 0 = if k = i then v else L.getD k 0 := by
  simp only [List.getD, List.getElem?_set]
  by_cases e : i = k
  · subst e; simp [hi]
  · simp [e, Ne.symm e]
theorem Good.step {m : Nat} {d : Dv} {j : Nat} {L : List Int} (h : Good m d j L) (k : Nat) (hk : k < m) (v : Int) : Good m (d.tick.add k (bb v)) (j + 1) (L.set k v) := by
  refine ⟨h.n, h.cut, by simp [Dv.tick, Dv.add, h.ops], by simp [h.len], fun x hx => ?_⟩
  rw [cur_add, cur_tick, getD_setI _ _ _ _ (by rw [h.len]; exact hk)]
  split
  · rfl
  · exact h.cur x hx
/-- Behind a flush every crash leaves the last writes. -/
theorem Good.flush {m : Nat} {d : Dv} {j : Nat} {L : List Int} (h : Good m d j L) (l : List Int) (k : Nat) (hk : k < m) : (d.flushed.crash l).cur k = bb (L.getD k 0) := by
  rw [cur_crash]
  have : d.flushed = d.tick.flush := by simp [Dv.flushed, h.on]
  rw [this]
  have e : d.tick.flush.crashBase l k = d.cur k := by
    simp [Dv.crashBase, Dv.at, Dv.flush, cur_tick]
  rw [e, h.cur k hk]
theorem ints58 (w : World) : IntsAt (w.alloc (.cells #[.int .i64 0, .int .i64 0, .int .i64 0, .int .i64 0, .int .i64 0, .int .i64 0] 58)) w.heap.size 58 (List.replicate 6 0) := heap_alloc_new w _
structure FwAt (w : World) (m t p g j : Nat) (wr : World) (d : Dv) (L : List Int) : Prop where
  good : Good m d j L
  fam : Fam w.heap.size wr [g] [(p, d)]
  ints : IntsAt wr g t L
  bel : Below w.heap.size w wr
theorem FwAt.lt {w : World} {m t p g j : Nat} {wr : World} {d : Dv} {L : List Int} (h : FwAt w m t p g j wr d L) : ∀ x ∈ [g], x < wr.heap.size := by
  intro x hx
  rw [List.mem_singleton.1 hx]; exact h.ints.lt
theorem modn (z : Int) (n : Nat) (h : 1 ≤ n) : (z % (n : Int)).toNat < n := by
  have := Int.emod_lt_of_pos z (show (0 : Int) < (n : Int) by omega)
  have := Int.emod_nonneg z (show (n : Int) ≠ 0 by omega)
  omega
set_option maxRecDepth 100000 in
set_option maxHeartbeats 2000000 in
theorem deviceFlush_walk (a0 : Option Addr) (cap0 : Nat) (l0 : List Int) (a1 : Option Addr) (cap1 : Nat) (l1 : List Int) (w : World) (w0 : RowI w a0 l0) (m0 : l0.length ≤ maxLen) (w1 : RowI w a1 l1) (m1 : l1.length ≤ maxLen) :
    Calls Try.prog 10 #[.slice a0 l0.length cap0, .slice a1 l1.length cap1] w fun e w' => e = .returned (.bool true) ∧ Below w.heap.size w w' := by
  unfold maxLen at m0 m1
  by_cases h0 : 60 < l0.length
  · have h0I : 60 < (l0.length : Int) := by omega
    go_enter Try.func10, Try.ntmps10
    go_wp2_with (go_at_call 12; refine (awake_any _).mono ?_; rintro e w2 ⟨rfl, hb⟩)
    go_ret
    exact ⟨rfl, by assumption⟩
  by_cases h1 : 100 < l1.length
  · have h0I : ¬ 60 < (l0.length : Int) := by omega
    have h1I : 100 < (l1.length : Int) := by omega
    go_enter Try.func10, Try.ntmps10
    go_wp2_with (go_at_call 12; refine (awake_any _).mono ?_; rintro e w2 ⟨rfl, hb⟩)
    go_ret
    exact ⟨rfl, by assumption⟩
  have h0I : ¬ 60 < (l0.length : Int) := by omega
  have h1I : ¬ 100 < (l1.length : Int) := by omega
  have hF0 : Fam w.heap.size w [] [] := trivial
  go_enter Try.func10, Try.ntmps10
  go_wp2_with (go_at_call 13; refine (famNew hF0 (by simp) (Nat.le_refl _) 6 (by omega) (by omega)).mono ?_; rintro e u1 ⟨p, rfl, hF1, hb1⟩)
  have hs1 := hb1.size
  obtain ⟨g, HG⟩ : ∃ g, Hid (u1.heap.size = g) := ⟨_, rfl⟩
  have hgB : w.heap.size ≤ g := by rw [← HG.out]; exact hs1
  have hbA : Below u1.heap.size u1 (u1.alloc (.cells #[.int .i64 0, .int .i64 0, .int .i64 0, .int .i64 0, .int .i64 0, .int .i64 0] 58)) := (Below.refl _ _).alloc (Nat.le_refl _) _
  have hF2 := hF1.cons hbA u1.heap.size (Nat.le_refl _)
  have hI2 := ints58 u1
  have hB2 : Below w.heap.size w (u1.alloc (.cells #[.int .i64 0, .int .i64 0, .int .i64 0, .int .i64 0, .int .i64 0, .int .i64 0] 58)) := hb1.trans (hbA.mono hs1)
  rw [HG.out] at hF2 hI2 ⊢
  go_loopw [8] (fun i wr => ∃ (j : Nat) (d : Dv) (L : List Int), j ≤ l0.length ∧ i = .int .i64 (j : Int) ∧ FwAt w 6 58 p g j wr d L) (fun i _ => l0.length - (iof i).toNat)
  case atStart => exact ⟨0, _, _, by omega, rfl, Good.start 6, hF2, hI2, hB2⟩
  case round =>
    clear hF2 hI2 hB2 hbA hF1 hF0
    obtain ⟨j, d, L, hj, rfl, hA⟩ := hrel
    by_cases hjl : j < l0.length
    · have hjI : (j : Int) < (l0.length : Int) := by omega
      obtain ⟨b0, o0, rfl, hcell, z1, z2⟩ := (w0.below hA.bel) j hjl
      obtain ⟨z, HZ⟩ : ∃ z, Hid (l0.getD j 0 = z) := ⟨_, rfl⟩
      rw [HZ.out] at hcell z1 z2
      have hk6 := modn z 6 (by omega)
      have K27 : Hid (∀ w', Calls Try.prog 27 #[.int .i64 z, .int .i64 6] w' fun e w'' => e = .returned (.int .i64 (((z % 6).toNat : Nat) : Int)) ∧ w'' = w') := fun w' => round_any z 6 w' z1 z2 (by omega) (by omega)
      have hk6' : (z % 6).toNat < 6 := hk6
      obtain ⟨k, HK⟩ : ∃ k, Hid ((z % 6).toNat = k) := ⟨_, rfl⟩
      rw [HK.out] at K27 hk6'
      clear hk6
      have hkI : (k : Int) < 6 := by omega
      have hkn : k < d.n := by rw [hA.good.n]; exact hk6'
      have hon := hA.good.on
      have HON : Hid (d.on = true) := hon
      have hop : d.ops < 1000000 := by rw [hA.good.ops]; omega
      have KW : Hid (∀ w' g', Below wr.heap.size wr w' → Full w' g' 5 (bb ((j : Int) + 1)) → Calls Try.prog 22 #[.pointer (some ⟨p, 0, none⟩), .int .i64 (k : Int), .slice (some ⟨g', 0, none⟩) 512 512] w' fun e w'' => e = .returned (.int .i64 0) ∧ Fam w.heap.size w'' [g] [(p, d.tick.add k (bb ((j : Int) + 1)))] ∧ IntsAt w'' g 58 L ∧ Below w.heap.size w w'') := fun w' g' hb hf => by
        have hs' := hb.size
        have hz := hA.bel.size
        refine (famWb (hA.fam.below hb) (fun x hx => Nat.lt_of_lt_of_le (hA.lt x hx) hs') (by omega) k hkn HON.out hop g' _ hf).mono ?_
        rintro e w'' ⟨rfl, hF, hS, hB, _⟩
        exact ⟨rfl, hF, (hA.ints.below hb).blk (hS g (by simp)), (hA.bel.trans (hb.mono hz)).trans hB⟩
      clear hon hop
      go_wp2_with (first
        | (go_at_call 27; refine (K27.out _).mono ?_; rintro e v1 ⟨rfl, hw⟩; subst v1)
        | (go_at_call 20; refine (block_any _ _).mono ?_; rintro e v2 ⟨g2, rfl, f2, _, hb2⟩)
        | (go_at_call 22; refine (KW.out _ _ hb2 f2).mono ?_; rintro e v3 ⟨rfl, hF3, hI3, hB3⟩; have hc3 := hI3.cell k (by rw [hA.good.len]; exact hk6'); have hf3 := hI3.free k))
      have hst := hA.good.step k hk6' ((j : Int) + 1)
      exact ⟨⟨j + 1, _, _, by omega, by go_num, hst, hF3.keeps (Keeps.ofSet _ _ _ _ _ (by simp)), hI3.store k _, hB3.setCell hgB _⟩, by simp [iof]; omega⟩
    · obtain rfl : j = l0.length := by omega
      have hon := hA.good.on
      have HON : Hid (d.on = true) := hon
      have hop : d.ops < 1000000 := by rw [hA.good.ops]; omega
      have hz := hA.bel.size
      have KF : Hid (Calls Try.prog 23 #[.pointer (some ⟨p, 0, none⟩)] wr fun e w'' => e = .returned (.int .i64 0) ∧ Fam w.heap.size w'' [g] [(p, d.flushed)] ∧ IntsAt w'' g 58 L ∧ Below w.heap.size w w'') := by
        refine (famF hA.fam hA.lt hz hop).mono ?_
        rintro e w'' ⟨rfl, hF, hS, hB, _⟩
        exact ⟨by rw [HON.out]; rfl, hF, hA.ints.blk (hS g (by simp)), hA.bel.trans hB⟩
      have KC : Hid (∀ w', Fam w.heap.size w' [g] [(p, d.flushed)] → IntsAt w' g 58 L → Below w.heap.size w w' → Calls Try.prog 25 #[.pointer (some ⟨p, 0, none⟩), .slice a1 l1.length cap1] w' fun e w'' => ∃ c F, e = .returned (.pointer (some ⟨c, 0, none⟩)) ∧ Dev w'' c F (d.flushed.crash l1) ∧ IntsAt w'' g 58 L ∧ Below w.heap.size w w'') := fun w' hF hI hB => by
        obtain ⟨F0, hd0⟩ := hF.head
        refine (crashD hd0 a1 l1 cap1 (w1.below hB) (by omega)).mono ?_
        rintro e w'' ⟨c, F, rfl, hd, _, hb⟩
        exact ⟨c, F, rfl, hd, hI.below hb, hB.trans (hb.mono hB.size)⟩
      have HCUR : Hid (∀ k, k < 6 → (d.flushed.crash l1).cur k = bb (L.getD k 0)) := hA.good.flush l1
      have HN : Hid ((d.flushed.crash l1).n = 6) := by
        show d.flushed.n = 6
        rw [show d.flushed = d.tick.flush by simp [Dv.flushed, HON.out]]
        exact hA.good.n
      have HLL : Hid (L.length = 6) := hA.good.len
      clear hA hon hop
      go_wp2_with (first
        | (go_at_call 23; refine Calls.mono KF.out ?_; rintro e v1 ⟨rfl, hF1, hI1, hB1⟩)
        | (go_at_call 25; refine (KC.out _ hF1 hI1 hB1).mono ?_; rintro e v2 ⟨c, F, rfl, hd2, hI2, hB2⟩; clear hF1 hI1 hB1))
      go_loopw [11] (fun i wr => ∃ k : Nat, k ≤ 6 ∧ i = .int .i64 (k : Int) ∧ Dev wr c F (d.flushed.crash l1) ∧ IntsAt wr g 58 L ∧ Below w.heap.size w wr) (fun i _ => 6 - (iof i).toNat)
      case atStart => exact ⟨0, by omega, rfl, hd2, hI2, hB2⟩
      case round =>
        clear hd2 hI2 hB2 KF KC
        obtain ⟨k, hk, rfl, hd, hI, hB⟩ := hrel
        by_cases hk6 : k < 6
        · have hkI : (k : Int) < 6 := by omega
          have KR : Hid (Calls Try.prog 18 #[.pointer (some ⟨c, 0, none⟩), .int .i64 (k : Int)] wr fun e w'' => ∃ g', e = .returned (.tuple #[.slice (some ⟨g', 0, none⟩) 512 512, .int .i64 0]) ∧ Full w'' g' 75 (bb (L.getD k 0)) ∧ wr.heap.size ≤ g' ∧ Below wr.heap.size wr w'') := by
            have := readD hd k (by rw [HN.out]; exact hk6)
            rw [HCUR.out k hk6] at this
            exact this
          have HLk : Hid (k < L.length) := by show _ < _; rw [HLL.out]; exact hk6
          obtain ⟨z, HZ⟩ : ∃ z, Hid (L.getD k 0 = z) := ⟨_, rfl⟩
          rw [HZ.out] at KR
          go_wp2_with (first
            | (go_at_call 18; refine Calls.mono KR.out ?_; rintro e v3 ⟨g3, rfl, f3, _, hb3⟩; have hI3 := hI.below hb3; have hc3 := hI3.cell k HLk.out; rw [HZ.out] at hc3)
            | (go_at_call 20; refine (block_any _ _).mono ?_; rintro e v4 ⟨g4, rfl, f4, _, hb4⟩; have f3 := f3.below hb4)
            | (go_at_call 19; refine (alike_yes f3 f4 (bb_len _) (bb_lt _)).mono ?_; rintro e v5 ⟨rfl, hb5⟩))
          have hb35 : Below wr.heap.size wr v5 := (hb3.trans (hb4.mono hb3.size)).trans (hb5.mono (by have := hb3.size; have := hb4.size; omega))
          exact ⟨⟨k + 1, by omega, by go_num, hd.below hb35, hI.below hb35, hB.trans (hb35.mono hB.size)⟩, by simp [iof]; omega⟩
        · obtain rfl : k = 6 := by omega
          go_wp2_with (go_at_call 12; refine (awake_any _).mono ?_; rintro e v3 ⟨rfl, hb3⟩)
          go_ret
          exact ⟨rfl, hB.trans (hb3.mono hB.size)⟩
end Go.Proofs.Ytlieckifnkngnaa
