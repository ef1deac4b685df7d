/- The walk of DeviceCuts: true for every argument. -/
import Derived.Test.YtlieckifnkngnaaNw
namespace Go.Proofs.Ytlieckifnkngnaa
set_option linter.unusedSimpArgs false
set_option linter.unusedVariables false
open Go.RowKit Go.MapKept
theorem famOff {B : Nat} {w : World} {G : List Nat} {p : Nat} {d : Dv} {r : List (Nat × Dv)} (h : Fam B w G ((p, d) :: r)) (hG : ∀ g ∈ G, g < w.heap.size) (hB : B ≤ w.heap.size) (k : Int) (hon : d.on = false) (ho : d.ops < 1000000) (g : Nat) (c : Int) (hc : Full w g 5 (bb c)) :
    Calls Try.prog 22 #[.pointer (some ⟨p, 0, none⟩), .int .i64 k, .slice (some ⟨g, 0, none⟩) 512 512] w fun e w' => e = .returned (.int .i64 9) ∧ Fam B w' G ((p, d.tick) :: r) ∧ Same G w w' ∧ Below B w w' ∧ w.heap.size ≤ w'.heap.size := by
  have := famW h hG hB k g (bb c) hc (bb_lt c) (by rw [bb_len]; omega) ho
  rw [bb_len, show d.wcode k 512 = 9 by simp [Dv.wcode, hon], show d.wrote k (bb c) = d.tick by simp [Dv.wrote, hon]] at this
  exact this
/-- Two devices, one of them cut behind n ops. -/
structure CuAt (n j : Nat) (da db : Dv) : Prop where
  n9 : da.n = 9
  cut : da.cut = true
  left : da.left = n - j
  ops : da.ops = j
  b : Pl 9 db (min j n)
  cur : ∀ k, da.cur k = db.cur k
theorem CuAt.on {n j : Nat} {da db : Dv} (h : CuAt n j da db) (hj : j < n) : da.on = true := by
  have := h.left
  simp [Dv.on, h.cut]; omega
theorem CuAt.off {n j : Nat} {da db : Dv} (h : CuAt n j da db) (hj : n ≤ j) : da.on = false := by
  have := h.left
  simp [Dv.on, h.cut]; omega
theorem CuAt.start (n : Nat) (k : Int) (hk : k = n) : CuAt n 0 ((fresh 9 fun _ => zeros).cutAt k) (fresh 9 fun _ => zeros) :=
  ⟨rfl, rfl, by simp [Dv.cutAt, hk], rfl, by simpa using Pl.fresh 9 _, fun _ => rfl⟩
theorem CuAt.both {n j : Nat} {da db : Dv} (h : CuAt n j da db) (hj : j < n) (k : Nat) (c : List Nat) : CuAt n (j + 1) (da.tick.add k c) (db.tick.add k c) := by
  refine ⟨h.n9, h.cut, ?_, by simp [Dv.tick, Dv.add, h.ops], ?_, fun x => ?_⟩
  · have := h.left
    simp [Dv.tick, Dv.add, h.cut]; omega
  · have := h.b.add k c
    rwa [show min j n + 1 = min (j + 1) n by omega] at this
  · rw [cur_add, cur_add, cur_tick, cur_tick, h.cur]
theorem CuAt.one {n j : Nat} {da db : Dv} (h : CuAt n j da db) (hj : n ≤ j) : CuAt n (j + 1) da.tick db := by
  refine ⟨h.n9, h.cut, ?_, by simp [Dv.tick, h.ops], ?_, fun x => by rw [cur_tick, h.cur]⟩
  · have := h.left
    simp [Dv.tick, h.cut]; omega
  · have := h.b
    rwa [show min j n = min (j + 1) n by omega] at this
set_option maxRecDepth 100000 in
set_option maxHeartbeats 4000000 in
theorem deviceCuts_walk (a0 : Option Addr) (cap0 : Nat) (l0 : List Int) (a1 : Int) (w : World) (w0 : RowI w a0 l0) (m0 : l0.length ≤ maxLen) (w1 : (Lit.int .i64 a1).wf = true) :
    Calls Try.prog 7 #[.slice a0 l0.length cap0, .int .i64 a1] w fun e w' => e = .returned (.bool true) ∧ Below w.heap.size w w' := by
  unfold maxLen at m0
  obtain ⟨q1, q2⟩ := bd64 w1
  clear w1
  by_cases h0 : 60 < l0.length
  · have h0I : 60 < (l0.length : Int) := by omega
    go_enter Try.func7, Try.ntmps7
    go_wp2_with (go_at_call 12; refine (awake_any _).mono ?_; rintro e w2 ⟨rfl, hb⟩)
    go_ret
    exact ⟨rfl, by assumption⟩
  have h0I : ¬ 60 < (l0.length : Int) := by omega
  by_cases h1 : a1 < 0
  · go_enter Try.func7, Try.ntmps7
    go_wp2_with (go_at_call 12; refine (awake_any _).mono ?_; rintro e w2 ⟨rfl, hb⟩)
    go_ret
    exact ⟨rfl, by assumption⟩
  by_cases h2 : 100 < a1
  · go_enter Try.func7, Try.ntmps7
    go_wp2_with (go_at_call 12; refine (awake_any _).mono ?_; rintro e w2 ⟨rfl, hb⟩)
    go_ret
    exact ⟨rfl, by assumption⟩
  obtain ⟨n, rfl⟩ := Int.eq_ofNat_of_zero_le (show 0 ≤ a1 by omega)
  have hF0 : Fam w.heap.size w [] [] := trivial
  have tok1 : True := trivial
  go_enter Try.func7, Try.ntmps7
  go_wp2_with (first
    | (go_at_call 13; have _t := tok1; refine (famNew hF0 (by simp) (Nat.le_refl _) 9 (by omega) (by omega)).mono ?_; rintro e u1 ⟨pa, rfl, hF1, hb1⟩; clear tok1 _t)
    | (go_at_call 13; refine (famNew hF1 (by simp) hb1.size 9 (by omega) (by omega)).mono ?_; rintro e u2 ⟨pb, rfl, hF2, hb2⟩; have hF3 := hF2.swap; have hB2 : Below w.heap.size w u2 := hb1.trans (hb2.mono hb1.size); clear hF2 hF1)
    | (go_at_call 21; refine (famCut hF3 (by simp) hB2.size _ q2).mono ?_; rintro e u3 ⟨⟨v3, rfl⟩, hF4, _, hB3, _⟩; have hB4 : Below w.heap.size w u3 := hB2.trans hB3; clear hF3))
  go_loopw [9] (fun i wr => ∃ (j : Nat) (da db : Dv), j ≤ l0.length ∧ i = .int .i64 (j : Int) ∧ CuAt n j da db ∧ Fam w.heap.size wr [] [(pa, da), (pb, db)] ∧ Below w.heap.size w wr) (fun i _ => l0.length - (iof i).toNat)
  case atStart => exact ⟨0, _, _, by omega, rfl, CuAt.start n _ rfl, hF4, hB4⟩
  case round =>
    clear hF4 hF0 hB4 hB3 hB2 hb1 hb2
    obtain ⟨j, da, db, hj, rfl, hC, hF, hB⟩ := hrel
    by_cases hjl : j < l0.length
    · have hjI : (j : Int) < (l0.length : Int) := by omega
      obtain ⟨b0, o0, z, k, rfl, hcell, hk, K27⟩ := loopR w0 hB hjl 9 (by omega) (by omega)
      have H27 : Hid (∀ w', Calls Try.prog 27 #[.int .i64 z, .int .i64 9] w' fun e w'' => e = .returned (.int .i64 ((k : Nat) : Int)) ∧ w'' = w') := K27
      clear K27
      by_cases hjn : j < n
      · have hjnI : (j : Int) < (n : Int) := by omega
        have hjnJ : ¬ (n : Int) ≤ (j : Int) := by omega
        have hdec : decide ((n : Int) ≤ (j : Int)) = false := by simp; omega
        have KA : Hid (∀ w' g', Below wr.heap.size wr w' → Full w' g' 5 (bb (j : Int)) → Calls Try.prog 22 #[.pointer (some ⟨pa, 0, none⟩), .int .i64 (k : Int), .slice (some ⟨g', 0, none⟩) 512 512] w' fun e w'' => e = .returned (.int .i64 0) ∧ Fam w.heap.size w'' [] [(pa, da.tick.add k (bb (j : Int))), (pb, db)] ∧ Below w.heap.size w w'') := fun w' g' hb hf => by
          have hz := hB.size
          have hs' := hb.size
          refine (famWb (hF.below hb) (by simp) (by omega) k (by rw [hC.n9]; exact hk) (hC.on hjn) (by rw [hC.ops]; omega) g' _ hf).mono ?_
          rintro e w'' ⟨rfl, hF2, _, hB2, _⟩
          exact ⟨rfl, hF2, (hB.trans (hb.mono hz)).trans hB2⟩
        have KB' : Hid (∀ w' g', Fam w.heap.size w' [] [(pa, da.tick.add k (bb (j : Int))), (pb, db)] → Below w.heap.size w w' → Full w' g' 5 (bb (j : Int)) → Calls Try.prog 22 #[.pointer (some ⟨pb, 0, none⟩), .int .i64 (k : Int), .slice (some ⟨g', 0, none⟩) 512 512] w' fun e w'' => e = .returned (.int .i64 0) ∧ Fam w.heap.size w'' [] [(pa, da.tick.add k (bb (j : Int))), (pb, db.tick.add k (bb (j : Int)))] ∧ Below w.heap.size w w'') := fun w' g' hF hB hf => by
          refine (famWb hF.swap (by simp) hB.size k (by rw [hC.b.n]; exact hk) hC.b.on (by rw [hC.b.ops]; omega) g' _ hf).mono ?_
          rintro e w'' ⟨rfl, hF2, _, hB2, _⟩
          exact ⟨rfl, hF2.swap, hB.trans hB2⟩
        have HN : Hid (CuAt n (j + 1) (da.tick.add k (bb (j : Int))) (db.tick.add k (bb (j : Int)))) := hC.both hjn k _
        have tok2 : True := trivial
        clear hC hF
        go_wp2_with (first
          | (go_at_call 27; refine (H27.out _).mono ?_; rintro e v1 ⟨rfl, hw⟩; subst v1)
          | (go_at_call 20; have _t := tok2; refine (block_any _ _).mono ?_; rintro e v2 ⟨g2, rfl, f2, _, hb2⟩; clear tok2 _t)
          | (go_at_call_of 22 (Value.pointer (some ⟨pa, 0, none⟩)); refine (KA.out _ _ hb2 f2).mono ?_; rintro e v3 ⟨rfl, hF3, hB3⟩)
          | (go_at_call 20; refine (block_any _ _).mono ?_; rintro e v4 ⟨g4, rfl, f4, _, hb4⟩; have hF4 := hF3.below hb4; have hB4 : Below w.heap.size w v4 := hB3.trans (hb4.mono hB3.size))
          | (go_at_call 22; refine (KB'.out _ _ hF4 hB4 f4).mono ?_; rintro e v5 ⟨rfl, hF5, hB5⟩))
        exact ⟨⟨j + 1, _, _, by omega, by go_num, HN.out, hF5, hB5⟩, by simp [iof]; omega⟩
      · have hjnI : ¬ (j : Int) < (n : Int) := by omega
        have hjnJ : (n : Int) ≤ (j : Int) := by omega
        have hdec : decide ((n : Int) ≤ (j : Int)) = true := by simp; omega
        have KA : Hid (∀ w' g', Below wr.heap.size wr w' → Full w' g' 5 (bb (j : Int)) → Calls Try.prog 22 #[.pointer (some ⟨pa, 0, none⟩), .int .i64 (k : Int), .slice (some ⟨g', 0, none⟩) 512 512] w' fun e w'' => e = .returned (.int .i64 9) ∧ Fam w.heap.size w'' [] [(pa, da.tick), (pb, db)] ∧ Below w.heap.size w w'') := fun w' g' hb hf => by
          have hz := hB.size
          have hs' := hb.size
          refine (famOff (hF.below hb) (by simp) (by omega) k (hC.off (by omega)) (by rw [hC.ops]; omega) g' _ hf).mono ?_
          rintro e w'' ⟨rfl, hF2, _, hB2, _⟩
          exact ⟨rfl, hF2, (hB.trans (hb.mono hz)).trans hB2⟩
        have HN : Hid (CuAt n (j + 1) da.tick db) := hC.one (by omega)
        clear hC hF
        go_wp2_with (first
          | (go_at_call 27; refine (H27.out _).mono ?_; rintro e v1 ⟨rfl, hw⟩; subst v1)
          | (go_at_call 20; refine (block_any _ _).mono ?_; rintro e v2 ⟨g2, rfl, f2, _, hb2⟩)
          | (go_at_call 22; refine (KA.out _ _ hb2 f2).mono ?_; rintro e v3 ⟨rfl, hF3, hB3⟩))
        exact ⟨⟨j + 1, _, _, by omega, by go_num, HN.out, hF3, hB3⟩, by simp [iof]; omega⟩
    · obtain rfl : j = l0.length := by omega
      obtain ⟨Fa, hda⟩ := hF.head
      obtain ⟨Fb, hdb⟩ := hF.swap.head
      have HC : Hid (CuAt n l0.length da db) := hC
      clear hC hF
      go_wp2
      go_loopw [12] (fun i wr => ∃ k : Nat, k ≤ 9 ∧ i = .int .i64 (k : Int) ∧ Dev wr pa Fa da ∧ Dev wr pb Fb db ∧ Below w.heap.size w wr) (fun i _ => 9 - (iof i).toNat)
      case atStart => exact ⟨0, by omega, rfl, hda, hdb, hB⟩
      case round =>
        clear hda hdb hB
        obtain ⟨k, hk, rfl, hda, hdb, hB⟩ := hrel
        by_cases hk9 : k < 9
        · have hkI : (k : Int) < 9 := by omega
          have KR1 : Hid (Calls Try.prog 18 #[.pointer (some ⟨pa, 0, none⟩), .int .i64 (k : Int)] wr fun e w'' => ∃ g', e = .returned (.tuple #[.slice (some ⟨g', 0, none⟩) 512 512, .int .i64 0]) ∧ Full w'' g' 75 (db.cur k) ∧ wr.heap.size ≤ g' ∧ Below wr.heap.size wr w'') := by
            have := readD hda k (by rw [HC.out.n9]; exact hk9)
            rw [HC.out.cur] at this
            exact this
          have KR2 : Hid (∀ w', Below wr.heap.size wr w' → Calls Try.prog 18 #[.pointer (some ⟨pb, 0, none⟩), .int .i64 (k : Int)] w' fun e w'' => ∃ g', e = .returned (.tuple #[.slice (some ⟨g', 0, none⟩) 512 512, .int .i64 0]) ∧ Full w'' g' 75 (db.cur k) ∧ w'.heap.size ≤ g' ∧ Below w'.heap.size w' w'') := fun w' hb => readD (hdb.below hb) k (by rw [HC.out.b.n]; exact hk9)
          have HOC : Hid ((db.cur k).length = 512 ∧ ∀ i, (db.cur k).getD i 0 < 256) := hdb.ok.cur k
          go_wp2_with (first
            | (go_at_call_of 18 (Value.pointer (some ⟨pa, 0, none⟩)); refine Calls.mono KR1.out ?_; rintro e v3 ⟨g3, rfl, f3, _, hb3⟩)
            | (go_at_call 18; refine (KR2.out _ hb3).mono ?_; rintro e v4 ⟨g4, rfl, f4, _, hb4⟩; have f3 := f3.below hb4)
            | (go_at_call 19; refine (alike_yes f3 f4 HOC.out.1 HOC.out.2).mono ?_; rintro e v5 ⟨rfl, hb5⟩))
          have hb35 : Below wr.heap.size wr v5 := (hb3.trans (hb4.mono hb3.size)).trans (hb5.mono (by have := hb3.size; have := hb4.size; omega))
          exact ⟨⟨k + 1, by omega, by go_num, hda.below hb35, hdb.below hb35, hB.trans (hb35.mono hB.size)⟩, by simp [iof]; omega⟩
        · obtain rfl : k = 9 := by omega
          have K24 : Hid (Calls Try.prog 24 #[.pointer (some ⟨pa, 0, none⟩)] wr fun e w' => e = .returned (.int .i64 (l0.length : Int)) ∧ w' = wr) := by
            have := opsD hda
            rw [HC.out.ops] at this
            exact this
          have eL := eqI (l0.length : Int)
          go_wp2_with (first
            | (go_at_call 24; refine Calls.mono K24.out ?_; rintro e v1 ⟨rfl, hw⟩; subst v1)
            | (go_at_call 12; refine (awake_any _).mono ?_; rintro e v3 ⟨rfl, hb3⟩))
          go_ret
          exact ⟨rfl, hB.trans (hb3.mono hB.size)⟩
end Go.Proofs.Ytlieckifnkngnaa
