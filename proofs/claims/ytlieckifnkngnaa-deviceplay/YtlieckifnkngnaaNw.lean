/- The walk of DeviceNone: true for every argument. -/
import Derived.Test.YtlieckifnkngnaaFw
namespace Go.Proofs.Ytlieckifnkngnaa
set_option linter.unusedSimpArgs false
set_option linter.unusedVariables false
open Go.RowKit Go.MapKept
/-- So many blocks, never cut, so many ops. -/
structure Pl (m : Nat) (d : Dv) (j : Nat) : Prop where
  n : d.n = m
  cut : d.cut = false
  ops : d.ops = j
theorem Pl.on {m : Nat} {d : Dv} {j : Nat} (h : Pl m d j) : d.on = true := by simp [Dv.on, h.cut]
theorem Pl.add {m : Nat} {d : Dv} {j : Nat} (h : Pl m d j) (k : Nat) (c : List Nat) : Pl m (d.tick.add k c) (j + 1) := ⟨h.n, h.cut, by simp [Dv.tick, Dv.add, h.ops]⟩
theorem Pl.flushed_is {m : Nat} {d : Dv} {j : Nat} (h : Pl m d j) : d.flushed = d.tick.flush := by simp [Dv.flushed, h.on]
theorem Pl.flush {m : Nat} {d : Dv} {j : Nat} (h : Pl m d j) : Pl m d.flushed (j + 1) := by
  rw [h.flushed_is]
  exact ⟨h.n, h.cut, by simp [Dv.tick, Dv.flush, h.ops]⟩
theorem Pl.fresh (m : Nat) (b : Nat → List Nat) : Pl m (fresh m b) 0 := ⟨rfl, rfl, rfl⟩
/-- A write in a loop's round, behind the making of its bytes. -/
theorem loopW {B : Nat} {w wr : World} {G : List Nat} {p m j : Nat} {d : Dv} {r : List (Nat × Dv)} (h : Fam B wr G ((p, d) :: r)) (hG : ∀ g ∈ G, g < wr.heap.size) (hbel : Below B w wr) (hB : B ≤ w.heap.size) (hP : Pl m d j) (hj : j < 1000000) (k : Nat) (hk : k < m) (c : Int) :
    ∀ w' g', Below wr.heap.size wr w' → Full w' g' 5 (bb c) → Calls Try.prog 22 #[.pointer (some ⟨p, 0, none⟩), .int .i64 (k : Int), .slice (some ⟨g', 0, none⟩) 512 512] w' fun e w'' => e = .returned (.int .i64 0) ∧ Fam B w'' G ((p, d.tick.add k (bb c)) :: r) ∧ Same G wr w'' ∧ Below B w w'' ∧ wr.heap.size ≤ w''.heap.size := fun w' g' hb hf => by
  have hs' := hb.size
  have hz := hbel.size
  refine (famWb (h.below hb) (fun x hx => Nat.lt_of_lt_of_le (hG x hx) hs') (by omega) k (by rw [hP.n]; exact hk) hP.on (by rw [hP.ops]; exact hj) g' c hf).mono ?_
  rintro e w'' ⟨rfl, hF, hS, hB2, hs2⟩
  exact ⟨rfl, hF, fun g hg => (hS g hg).trans (hb.block g (hG g hg)), (hbel.trans (hb.mono (by omega))).trans hB2, by omega⟩
def sl (g : Nat) : Value := .slice (some ⟨g, 0, none⟩) 512 512
def wasC (m : Nat) (R : List Nat) : Array Value := (R.map sl ++ List.replicate (m - R.length) (Value.slice none 0 0)).toArray
/-- An array of rows of bytes: the first ones laid. -/
structure WasAt (w : World) (g t m : Nat) (R : List Nat) (C : Nat → List Nat) : Prop where
  arr : w.heap[g]? = some (.cells (wasC m R) t (0, 0))
  rows : ∀ k, k < R.length → Full w (R.getD k 0) 75 (C k)
theorem WasAt.blk {w w' : World} {g t m : Nat} {R : List Nat} {C : Nat → List Nat} (h : WasAt w g t m R C) (e : Same (g :: R) w w') : WasAt w' g t m R C :=
  ⟨(e g (by simp)).trans h.arr, fun k hk => (h.rows k hk).blk (e _ (List.mem_cons.2 (.inr (getD_mem R k hk))))⟩
theorem WasAt.lt {w : World} {g t m : Nat} {R : List Nat} {C : Nat → List Nat} (h : WasAt w g t m R C) : ∀ x ∈ g :: R, x < w.heap.size := by
  intro x hx
  rcases List.mem_cons.1 hx with rfl | q
  · exact (Array.getElem?_eq_some_iff.1 h.arr).1
  · obtain ⟨i, hi, rfl⟩ := mem_take q
    exact (h.rows i hi).lt
theorem same_below {w w' : World} {G : List Nat} (hb : Below w.heap.size w w') (hG : ∀ g ∈ G, g < w.heap.size) : Same G w w' := fun g hg => hb.block g (hG g hg)
theorem WasAt.below {w w' : World} {g t m : Nat} {R : List Nat} {C : Nat → List Nat} (h : WasAt w g t m R C) (hb : Below w.heap.size w w') : WasAt w' g t m R C := h.blk (same_below hb h.lt)
theorem WasAt.cell {w : World} {g t m : Nat} {R : List Nat} {C : Nat → List Nat} (h : WasAt w g t m R C) (k : Nat) (hk : k < R.length) : w.cell? ⟨g, k, none⟩ = some (.slice (some ⟨R.getD k 0, 0, none⟩) 512 512) := by
  rw [cell_of_row _ _ _ _ _ _ h.arr]
  simp [wasC, List.getElem?_append, hk, List.getD, sl]
theorem WasAt.cellNil {w : World} {g t m : Nat} {R : List Nat} {C : Nat → List Nat} (h : WasAt w g t m R C) (hk : R.length < m) : w.cell? ⟨g, R.length, none⟩ = some (.slice none 0 0) := by
  rw [cell_of_row _ _ _ _ _ _ h.arr]
  simp [wasC, List.getElem?_append, List.getElem?_replicate]
  omega
theorem wasC_set (m : Nat) (R : List Nat) (g : Nat) (h : R.length < m) : (wasC m R).setIfInBounds R.length (sl g) = wasC m (R ++ [g]) := by
  unfold wasC
  apply Array.ext'
  simp only [List.setIfInBounds_toArray]
  have e : List.replicate (m - R.length) (Value.slice none 0 0) = .slice none 0 0 :: List.replicate (m - (R ++ [g]).length) (.slice none 0 0) := by
    rw [show m - R.length = (m - (R ++ [g]).length) + 1 by simp; omega, List.replicate_succ]
  rw [e, List.set_append_right _ _ (by simp)]
  simp
theorem WasAt.store {w : World} {g t m : Nat} {R : List Nat} {C : Nat → List Nat} (h : WasAt w g t m R C) (hk : R.length < m) (g' : Nat) (hf : Full w g' 75 (C R.length)) (hne : ∀ x ∈ g' :: R, x ≠ g) : WasAt (w.setCell ⟨g, R.length, none⟩ (.slice (some ⟨g', 0, none⟩) 512 512)) g t m (R ++ [g']) C := by
  refine ⟨?_, fun k hk2 => ?_⟩
  · rw [heap_setCell_same _ _ _ _ _ _ h.arr]
    rw [← wasC_set m R g' hk]
    rfl
  · by_cases e : k = R.length
    · subst e
      have : (R ++ [g']).getD R.length 0 = g' := by simp [List.getD]
      rw [this]
      exact hf.blk (heap_setCell_other _ _ _ _ (hne g' (by simp)))
    · have hk3 : k < R.length := by simp at hk2; omega
      have e2 : (R ++ [g']).getD k 0 = R.getD k 0 := by simp [List.getD, List.getElem?_append, hk3]
      rw [e2]
      exact (h.rows k hk3).blk (heap_setCell_other _ _ _ _ (hne _ (List.mem_cons.2 (.inr (getD_mem R k hk3)))))
theorem was57 (w : World) (C : Nat → List Nat) : WasAt (w.alloc (.cells #[.slice none 0 0, .slice none 0 0, .slice none 0 0, .slice none 0 0, .slice none 0 0, .slice none 0 0, .slice none 0 0] 57)) w.heap.size 57 7 [] C :=
  ⟨heap_alloc_new w _, fun k hk => by simp at hk⟩
/-- A number of the row, brought into the range: the call in a loop's round. -/
theorem loopR {w wr : World} {a : Option Addr} {l : List Int} {j : Nat} (h : RowI w a l) (hb : Below w.heap.size w wr) (hj : j < l.length) (n : Nat) (hn : 1 ≤ n) (hn2 : n ≤ 1000000) :
    ∃ b o z k, a = some ⟨b, o, none⟩ ∧ wr.cell? ⟨b, o + j, none⟩ = some (.int .i64 z) ∧ k < n ∧ ∀ w', Calls Try.prog 27 #[.int .i64 z, .int .i64 (n : Int)] w' fun e w'' => e = .returned (.int .i64 ((k : Nat) : Int)) ∧ w'' = w' := by
  obtain ⟨b, o, e, hcell, z1, z2⟩ := (h.below hb) j hj
  exact ⟨b, o, l.getD j 0, (l.getD j 0 % (n : Int)).toNat, e, hcell, modn _ n hn, fun w' => round_any _ n w' z1 z2 hn hn2⟩
theorem base_add (d : Dv) (k : Nat) (c : List Nat) : (d.tick.add k c).base = d.base := rfl
theorem crash_nil_cur (d : Dv) (k : Nat) : (d.crash []).cur k = d.base k := by
  rw [cur_crash, Dv.crashBase]
  have : (if d.pend k = [] then 0 else pickOf [] (d.rank k) (d.pend k).length) = 0 := by split <;> simp [pickOf]
  rw [this]
  simp [Dv.at]
theorem flush_crash_cur {d : Dv} {m j : Nat} (h : Pl m d j) (l : List Int) (k : Nat) : (d.flushed.crash l).cur k = d.flushed.cur k := by
  rw [cur_crash, h.flushed_is]
  simp [Dv.crashBase, Dv.at, Dv.cur, Dv.flush]
theorem flush_cur {d : Dv} {m j : Nat} (h : Pl m d j) (k : Nat) : d.flushed.cur k = d.flushed.base k := by
  rw [h.flushed_is]
  simp [Dv.at, Dv.cur, Dv.flush]
theorem rowI_555 (w : World) : RowI (w.alloc (.cells #[.int .i64 5, .int .i64 5, .int .i64 5] 3)) (some ⟨w.heap.size, 0, none⟩) [5, 5, 5] := by
  intro i hi
  refine ⟨w.heap.size, 0, rfl, ?_⟩
  rw [cell_of_row _ _ _ _ _ _ (heap_alloc_new w _)]
  match i, hi with
  | 0, _ => exact ⟨rfl, by decide, by decide⟩
  | 1, _ => exact ⟨rfl, by decide, by decide⟩
  | 2, _ => exact ⟨rfl, by decide, by decide⟩
set_option maxRecDepth 100000 in
set_option maxHeartbeats 4000000 in
theorem deviceNone_walk (a0 : Option Addr) (cap0 : Nat) (l0 : List Int) (a1 : Option Addr) (cap1 : Nat) (l1 : List Int) (w : World) (w0 : RowI w a0 l0) (m0 : l0.length ≤ maxLen) (w1 : RowI w a1 l1) (m1 : l1.length ≤ maxLen) :
    Calls Try.prog 9 #[.slice a0 l0.length cap0, .slice a1 l1.length cap1] w fun e w' => e = .returned (.bool true) ∧ Below w.heap.size w w' := by
  unfold maxLen at m0 m1
  by_cases h0 : 40 < l0.length
  · have h0I : 40 < (l0.length : Int) := by omega
    go_enter Try.func9, Try.ntmps9
    go_wp2_with (go_at_call 12; refine (awake_any _).mono ?_; rintro e w2 ⟨rfl, hb⟩)
    go_ret
    exact ⟨rfl, by assumption⟩
  by_cases h1 : 40 < l1.length
  · have h0I : ¬ 40 < (l0.length : Int) := by omega
    have h1I : 40 < (l1.length : Int) := by omega
    go_enter Try.func9, Try.ntmps9
    go_wp2_with (go_at_call 12; refine (awake_any _).mono ?_; rintro e w2 ⟨rfl, hb⟩)
    go_ret
    exact ⟨rfl, by assumption⟩
  have h0I : ¬ 40 < (l0.length : Int) := by omega
  have h1I : ¬ 40 < (l1.length : Int) := by omega
  have hF0 : Fam w.heap.size w [] [] := trivial
  go_enter Try.func9, Try.ntmps9
  go_wp2_with (go_at_call 13; refine (famNew hF0 (by simp) (Nat.le_refl _) 7 (by omega) (by omega)).mono ?_; rintro e u1 ⟨p, rfl, hF1, hb1⟩)
  have hs1 := hb1.size
  go_loopw [7] (fun i wr => ∃ (j : Nat) (d : Dv), j ≤ l0.length ∧ i = .int .i64 (j : Int) ∧ Pl 7 d j ∧ Fam w.heap.size wr [] [(p, d)] ∧ Below w.heap.size w wr) (fun i _ => l0.length - (iof i).toNat)
  case atStart => exact ⟨0, _, by omega, rfl, Pl.fresh 7 _, hF1, hb1⟩
  case round =>
    clear hF1 hF0 hb1
    obtain ⟨j, d, hj, rfl, hP, hF, hB⟩ := hrel
    by_cases hjl : j < l0.length
    · have hjI : (j : Int) < (l0.length : Int) := by omega
      obtain ⟨b0, o0, z, k, rfl, hcell, hk, K27⟩ := loopR w0 hB hjl 7 (by omega) (by omega)
      have H27 : Hid (∀ w', Calls Try.prog 27 #[.int .i64 z, .int .i64 7] w' fun e w'' => e = .returned (.int .i64 ((k : Nat) : Int)) ∧ w'' = w') := K27
      have HW : Hid _ := loopW hF (by simp) hB (Nat.le_refl _) hP (by omega) k hk ((j : Int) + 1)
      clear K27
      go_wp2_with (first
        | (go_at_call 27; refine (H27.out _).mono ?_; rintro e v1 ⟨rfl, hw⟩; subst v1)
        | (go_at_call 20; refine (block_any _ _).mono ?_; rintro e v2 ⟨g2, rfl, f2, _, hb2⟩)
        | (go_at_call 22; refine Calls.mono (HW.out _ _ hb2 f2) ?_; rintro e v3 ⟨rfl, hF3, _, hB3, _⟩))
      exact ⟨⟨j + 1, _, by omega, by go_num, hP.add _ _, hF3, hB3⟩, by simp [iof]; omega⟩
    · obtain rfl : j = l0.length := by omega
      have hz := hB.size
      have HP : Hid (Pl 7 d.flushed (l0.length + 1)) := hP.flush
      have HCB : Hid (∀ k, d.flushed.cur k = d.flushed.base k) := flush_cur hP
      have KF : Hid (Calls Try.prog 23 #[.pointer (some ⟨p, 0, none⟩)] wr fun e w'' => e = .returned (.int .i64 0) ∧ Fam w.heap.size w'' [] [(p, d.flushed)] ∧ Below w.heap.size w w'') := by
        refine (famF hF (by simp) hz (by rw [hP.ops]; omega)).mono ?_
        rintro e w'' ⟨rfl, hF, hS, hB2, _⟩
        exact ⟨by rw [hP.on]; rfl, hF, hB.trans hB2⟩
      clear hP hF
      obtain ⟨d1, HD1⟩ : ∃ d1, Hid (d.flushed = d1) := ⟨_, rfl⟩
      rw [HD1.out] at HP KF
      go_wp2_with (go_at_call 23; refine Calls.mono KF.out ?_; rintro e u2 ⟨rfl, hF2, hB2⟩)
      rw [HD1.out] at HCB
      have hs2 := hB2.size
      obtain ⟨g, HG⟩ : ∃ g, Hid (u2.heap.size = g) := ⟨_, rfl⟩
      have hgB : w.heap.size ≤ g := by rw [← HG.out]; exact hs2
      have hbA : Below u2.heap.size u2 (u2.alloc (.cells #[.slice none 0 0, .slice none 0 0, .slice none 0 0, .slice none 0 0, .slice none 0 0, .slice none 0 0, .slice none 0 0] 57)) := (Below.refl _ _).alloc (Nat.le_refl _) _
      have hF3 := hF2.cons hbA u2.heap.size (Nat.le_refl _)
      have hW3 := was57 u2 d1.base
      have hB3 : Below w.heap.size w (u2.alloc (.cells #[.slice none 0 0, .slice none 0 0, .slice none 0 0, .slice none 0 0, .slice none 0 0, .slice none 0 0, .slice none 0 0] 57)) := hB2.trans (hbA.mono hs2)
      rw [HG.out] at hF3 hW3 ⊢
      clear hF2 hB2 hbA KF hB
      go_loopw [9] (fun i wr => ∃ (k : Nat) (R : List Nat), k ≤ 7 ∧ i = .int .i64 (k : Int) ∧ R.length = k ∧ Fam w.heap.size wr (g :: R) [(p, d1)] ∧ WasAt wr g 57 7 R d1.base ∧ Below w.heap.size w wr) (fun i _ => 7 - (iof i).toNat)
      case atStart => exact ⟨0, [], by omega, rfl, rfl, hF3, hW3, hB3⟩
      case round =>
        clear hF3 hW3 hB3
        obtain ⟨k, R, hk, rfl, rfl, hF, hW, hB⟩ := hrel
        by_cases hk7 : R.length < 7
        · have hkI : (R.length : Int) < 7 := by omega
          have KR : Hid (Calls Try.prog 18 #[.pointer (some ⟨p, 0, none⟩), .int .i64 (R.length : Int)] wr fun e w'' => ∃ g', e = .returned (.tuple #[.slice (some ⟨g', 0, none⟩) 512 512, .int .i64 0]) ∧ Full w'' g' 75 (d1.base R.length) ∧ wr.heap.size ≤ g' ∧ Below wr.heap.size wr w'') := by
            have := famR hF R.length (by rw [HP.out.n]; exact hk7)
            rw [HCB.out] at this
            exact this
          have hcN := hW.cellNil hk7
          have HK7 : Hid (R.length < 7) := hk7
          go_wp2_with (first
            | (go_at_call 18; refine Calls.mono KR.out ?_; rintro e v3 ⟨g3, rfl, f3, hg3, hb3⟩; have hW3 := hW.below hb3; have hc3 := hW3.cellNil HK7.out; have hf3 := frozen_of_row v3 g R.length _ _ hW3.arr))
          have hne : ∀ x ∈ g3 :: R, x ≠ g := by
            intro x hx e
            have hgl := hW.lt g (by simp)
            rcases List.mem_cons.1 hx with rfl | q
            · omega
            · obtain ⟨i, hi, rfl⟩ := mem_take q
              have a := hW.rows i hi
              have b := hW.arr
              unfold Full at a
              rw [e, b] at a
              injection a with t
              injection t with _ t2
              exact absurd t2 (by decide)
          have hF3 : Fam w.heap.size v3 (g :: (R ++ [g3])) [(p, d1)] := (hF.cons hb3 g3 hg3).mono fun x hx => .inl (by
            simp only [List.mem_cons, List.mem_append, List.mem_singleton, List.not_mem_nil, or_false] at hx ⊢
            rcases hx with q | q | q
            · exact .inr (.inl q)
            · exact .inr (.inr q)
            · exact .inl q)
          exact ⟨⟨R.length + 1, R ++ [g3], by omega, by go_num, by simp, hF3.keeps (Keeps.ofSet _ _ _ _ _ (by simp)), hW3.store HK7.out g3 f3 hne, (hB.trans (hb3.mono hB.size)).setCell hgB _⟩, by simp [iof]; omega⟩
        · have HR : Hid (R.length = 7) := by show _ = _; omega
          have hR7 : ((R.length : Nat) : Int) = 7 := by have := HR.out; omega
          rw [hR7]
          clear hk hk7
          go_wp2
          go_loopw [10] (fun i wr => ∃ (j : Nat) (d : Dv), j ≤ l1.length ∧ i = .int .i64 (j : Int) ∧ Pl 7 d (l0.length + 1 + j) ∧ d.base = d1.base ∧ Fam w.heap.size wr (g :: R) [(p, d)] ∧ WasAt wr g 57 7 R d1.base ∧ Below w.heap.size w wr) (fun i _ => l1.length - (iof i).toNat)
          case atStart => exact ⟨0, d1, by omega, rfl, HP.out, rfl, hF, hW, hB⟩
          case round =>
            clear hF hW hB
            obtain ⟨j, d, hj, rfl, hP, hbase, hF, hW, hB⟩ := hrel
            have HBASE : Hid (d.base = d1.base) := hbase
            clear hbase
            by_cases hjl : j < l1.length
            · have hjI : (j : Int) < (l1.length : Int) := by omega
              obtain ⟨b0, o0, z, k, rfl, hcell, hk, K27⟩ := loopR w1 hB hjl 7 (by omega) (by omega)
              have H27 : Hid (∀ w', Calls Try.prog 27 #[.int .i64 z, .int .i64 7] w' fun e w'' => e = .returned (.int .i64 ((k : Nat) : Int)) ∧ w'' = w') := K27
              have HWr : Hid _ := loopW hF hW.lt hB (Nat.le_refl _) hP (by omega) k hk (100 + (j : Int))
              clear K27
              go_wp2_with (first
                | (go_at_call 27; refine (H27.out _).mono ?_; rintro e v1 ⟨rfl, hw⟩; subst v1)
                | (go_at_call 20; refine (block_any _ _).mono ?_; rintro e v2 ⟨g2, rfl, f2, _, hb2⟩)
                | (go_at_call 22; refine Calls.mono (HWr.out _ _ hb2 f2) ?_; rintro e v3 ⟨rfl, hF3, hS3, hB3, _⟩))
              exact ⟨⟨j + 1, d.tick.add k (bb (100 + (j : Int))), by omega, by go_num, by have := hP.add k (bb (100 + (j : Int))); rw [show l0.length + 1 + (j + 1) = l0.length + 1 + j + 1 by omega]; exact this, HBASE.out, hF3, hW.blk hS3, hB3⟩, by simp [iof]; omega⟩
            · obtain rfl : j = l1.length := by omega
              have hz := hB.size
              have KC : Hid (Calls Try.prog 25 #[.pointer (some ⟨p, 0, none⟩), .slice none 0 0] wr fun e w'' => ∃ c F, e = .returned (.pointer (some ⟨c, 0, none⟩)) ∧ Dev w'' c F (d.crash []) ∧ Fam w.heap.size w'' (g :: R) [(p, d)] ∧ WasAt w'' g 57 7 R d1.base ∧ Below w.heap.size w w'') := by
                obtain ⟨F0, hd0⟩ := hF.head
                refine (crashD hd0 none [] 0 (RowI.nil _ _) (by simp)).mono ?_
                rintro e w'' ⟨c, F, rfl, hd, _, hb⟩
                exact ⟨c, F, rfl, hd, hF.below hb, hW.below hb, hB.trans (hb.mono hz)⟩
              have HCC : Hid (∀ k, (d.crash []).cur k = d1.base k) := fun k => by rw [crash_nil_cur, HBASE.out]
              have HCN : Hid ((d.crash []).n = 7) := hP.n
              have HP2 : Hid (Pl 7 d (l0.length + 1 + l1.length)) := hP
              have HOK : Hid (∀ k, (d1.base k).length = 512 ∧ ∀ i, (d1.base k).getD i 0 < 256) := by
                obtain ⟨F0, hd0⟩ := hF.head
                rw [← HBASE.out]
                exact hd0.ok.base
              clear hF hW hB hP
              go_wp2_with (go_at_call 25; refine Calls.mono KC.out ?_; rintro e v2 ⟨c, F, rfl, hd2, hF2, hW2, hB2⟩)
              go_loopw [12] (fun i wr => ∃ k : Nat, k ≤ 7 ∧ i = .int .i64 (k : Int) ∧ Dev wr c F (d.crash []) ∧ Fam w.heap.size wr (g :: R) [(p, d)] ∧ WasAt wr g 57 7 R d1.base ∧ Below w.heap.size w wr) (fun i _ => 7 - (iof i).toNat)
              case atStart => exact ⟨0, by omega, rfl, hd2, hF2, hW2, hB2⟩
              case round =>
                clear hd2 hF2 hW2 hB2 KC
                obtain ⟨k, hk, rfl, hd, hF, hW, hB⟩ := hrel
                by_cases hk7 : k < 7
                · have hkI : (k : Int) < 7 := by omega
                  have KR : Hid (Calls Try.prog 18 #[.pointer (some ⟨c, 0, none⟩), .int .i64 (k : Int)] wr fun e w'' => ∃ g', e = .returned (.tuple #[.slice (some ⟨g', 0, none⟩) 512 512, .int .i64 0]) ∧ Full w'' g' 75 (d1.base k) ∧ wr.heap.size ≤ g' ∧ Below wr.heap.size wr w'') := by
                    have := readD hd k (by rw [HCN.out]; exact hk7)
                    rw [HCC.out] at this
                    exact this
                  have HKR : Hid (k < R.length) := by show _ < _; rw [HR.out]; exact hk7
                  obtain ⟨gk, HGK⟩ : ∃ gk, Hid (R.getD k 0 = gk) := ⟨_, rfl⟩
                  go_wp2_with (first
                    | (go_at_call 18; refine Calls.mono KR.out ?_; rintro e v3 ⟨g3, rfl, f3, _, hb3⟩; have hW3 := hW.below hb3; have hc3 := hW3.cell k HKR.out; have r3 := hW3.rows k HKR.out; rw [HGK.out] at hc3 r3)
                    | (go_at_call 19; refine (alike_yes f3 r3 (HOK.out k).1 (HOK.out k).2).mono ?_; rintro e v5 ⟨rfl, hb5⟩))
                  have hb35 : Below wr.heap.size wr v5 := hb3.trans (hb5.mono hb3.size)
                  exact ⟨⟨k + 1, by omega, by go_num, hd.below hb35, hF.below hb35, hW.below hb35, hB.trans (hb35.mono hB.size)⟩, by simp [iof]; omega⟩
                · obtain rfl : k = 7 := by omega
                  have hz := hB.size
                  have KF : Hid (Calls Try.prog 23 #[.pointer (some ⟨p, 0, none⟩)] wr fun e w'' => e = .returned (.int .i64 0) ∧ Fam w.heap.size w'' (g :: R) [(p, d.flushed)] ∧ Below w.heap.size w w'') := by
                    refine (famF hF hW.lt hz (by rw [HP2.out.ops]; omega)).mono ?_
                    rintro e w'' ⟨rfl, hF, hS, hB2, _⟩
                    exact ⟨by rw [HP2.out.on]; rfl, hF, hB.trans hB2⟩
                  have HFC : Hid (∀ l k, (d.flushed.crash l).cur k = d.flushed.cur k) := flush_crash_cur HP2.out
                  have HPF : Hid (Pl 7 d.flushed (l0.length + 1 + l1.length + 1)) := HP2.out.flush
                  obtain ⟨d2, HD2⟩ : ∃ d2, Hid (d.flushed = d2) := ⟨_, rfl⟩
                  rw [HD2.out] at KF HFC HPF
                  clear hd hF hW hB
                  have KC : Hid (∀ w', Fam w.heap.size w' (g :: R) [(p, d2)] → Below w.heap.size w w' → Calls Try.prog 25 #[.pointer (some ⟨p, 0, none⟩), .slice (some ⟨w'.heap.size, 0, none⟩) 3 3] (w'.alloc (.cells #[.int .i64 5, .int .i64 5, .int .i64 5] 3)) fun e w'' => ∃ c F F0, e = .returned (.pointer (some ⟨c, 0, none⟩)) ∧ Dev w'' c F (d2.crash [5, 5, 5]) ∧ Dev w'' p F0 d2 ∧ Below w.heap.size w w'') := fun w' hF hB => by
                    obtain ⟨F0, hd0⟩ := hF.head
                    have hbA : Below w'.heap.size w' (w'.alloc (.cells #[.int .i64 5, .int .i64 5, .int .i64 5] 3)) := (Below.refl _ _).alloc (Nat.le_refl _) _
                    refine (crashD (hd0.below hbA) _ [5, 5, 5] 3 (rowI_555 w') (by simp)).mono ?_
                    rintro e w'' ⟨c, F, rfl, hd, _, hb⟩
                    exact ⟨c, F, F0, rfl, hd, (hd0.below hbA).below hb, (hB.trans (hbA.mono hB.size)).trans (hb.mono (by have := hB.size; have := hbA.size; omega))⟩
                  go_wp2_with (first
                    | (go_at_call 23; refine Calls.mono KF.out ?_; rintro e v6 ⟨rfl, hF6, hB6⟩)
                    | (go_at_call 25; refine (KC.out _ hF6 hB6).mono ?_; rintro e v7 ⟨c2, F2, F0, rfl, hd7, hp7, hB7⟩))
                  go_loopw [15] (fun i wr => ∃ k : Nat, k ≤ 7 ∧ i = .int .i64 (k : Int) ∧ Dev wr c2 F2 (d2.crash [5, 5, 5]) ∧ Dev wr p F0 d2 ∧ Below w.heap.size w wr) (fun i _ => 7 - (iof i).toNat)
                  case atStart => exact ⟨0, by omega, rfl, hd7, hp7, hB7⟩
                  case round =>
                    clear hd7 hp7 hB7 KC KF hF6 hB6
                    obtain ⟨k, hk, rfl, hd, hp, hB⟩ := hrel
                    by_cases hk7 : k < 7
                    · have hkI : (k : Int) < 7 := by omega
                      have KR1 : Hid (Calls Try.prog 18 #[.pointer (some ⟨c2, 0, none⟩), .int .i64 (k : Int)] wr fun e w'' => ∃ g', e = .returned (.tuple #[.slice (some ⟨g', 0, none⟩) 512 512, .int .i64 0]) ∧ Full w'' g' 75 (d2.cur k) ∧ wr.heap.size ≤ g' ∧ Below wr.heap.size wr w'') := by
                        have := readD hd k (by show k < d2.n; rw [HPF.out.n]; exact hk7)
                        rw [HFC.out] at this
                        exact this
                      have KR2 : Hid (∀ w', Below wr.heap.size wr w' → Calls Try.prog 18 #[.pointer (some ⟨p, 0, none⟩), .int .i64 (k : Int)] w' fun e w'' => ∃ g', e = .returned (.tuple #[.slice (some ⟨g', 0, none⟩) 512 512, .int .i64 0]) ∧ Full w'' g' 75 (d2.cur k) ∧ w'.heap.size ≤ g' ∧ Below w'.heap.size w' w'') := fun w' hb => readD (hp.below hb) k (by rw [HPF.out.n]; exact hk7)
                      have HOC : Hid ((d2.cur k).length = 512 ∧ ∀ i, (d2.cur k).getD i 0 < 256) := hp.ok.cur k
                      go_wp2_with (first
                        | (go_at_call_of 18 (Value.pointer (some ⟨c2, 0, none⟩)); refine Calls.mono KR1.out ?_; rintro e v3 ⟨g3, rfl, f3, _, hb3⟩)
                        | (go_at_call 18; refine (KR2.out _ hb3).mono ?_; rintro e v4 ⟨g4, rfl, f4, _, hb4⟩; have f3 := f3.below hb4)
                        | (go_at_call 19; refine (alike_yes f3 f4 HOC.out.1 HOC.out.2).mono ?_; rintro e v5 ⟨rfl, hb5⟩))
                      have hb35 : Below wr.heap.size wr v5 := (hb3.trans (hb4.mono hb3.size)).trans (hb5.mono (by have := hb3.size; have := hb4.size; omega))
                      exact ⟨⟨k + 1, by omega, by go_num, hd.below hb35, hp.below hb35, hB.trans (hb35.mono hB.size)⟩, by simp [iof]; omega⟩
                    · obtain rfl : k = 7 := by omega
                      go_wp2_with (go_at_call 12; refine (awake_any _).mono ?_; rintro e v3 ⟨rfl, hb3⟩)
                      go_ret
                      exact ⟨rfl, hB.trans (hb3.mono hB.size)⟩
end Go.Proofs.Ytlieckifnkngnaa
