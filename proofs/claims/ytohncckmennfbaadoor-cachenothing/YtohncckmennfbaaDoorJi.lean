/- homes, walked. -/
import Derived.Test.YtohncckmennfbaaDoorJh
namespace Go.Proofs.YtohncckmennfbaaDoor
set_option linter.unusedSimpArgs false
set_option linter.unusedVariables false
open Go.RowKit Go.MapKept Go.Proofs Go.Sort Go.Shelf
theorem HmAt.step {w0 wr W4 W6 : World} {lb r m : Nat} {T : List (List Nat)} {left : Nat × Nat → Prop} {cnt cnt' : Nat} {v v' : Value} {zs : List Int} {s k : Nat} (h : HmAt w0 wr lb r m T left cnt v zs) (hk : k ∈ T.getD s []) (hl : left (s, k)) (hlt : cnt' < cnt)
    (hR : Rng W4 lb r mkP (lv T) m (fun x => left x ∧ x ≠ (s, k)) cnt') (hg4 : wr.grownBy W4 (some r)) (hb : Below W4.heap.size W4 W6) {W7 : World} (hg : W6.grownBy W7 v.ownBlock) (hown : W7.ownsRow w0.heap.size 3 1 v' (zs.length + 1) (zs.map (Value.int .i64) ++ [.int .i64 (k : Int)])) :
    HmAt w0 W7 lb r m T (fun x => left x ∧ x ≠ (s, k)) cnt' v' (zs ++ [(k : Int)]) := by
  have hb6 : Below w0.heap.size w0 W6 := (h.bel.grown hg4 h.bel.size (fun x hx => by cases hx; exact h.ge)).trans (hb.mono (Nat.le_trans h.bel.size hg4.size))
  have hr6 : r < W6.heap.size := Nat.lt_of_lt_of_le hR.lt hb.size
  have hlb6 : lb < W6.heap.size := Nat.lt_of_lt_of_le hR.map.lt hb.size
  have hlbne : v.ownBlock ≠ some lb := fun e => by
    have hh := h.own
    obtain ⟨es, c, q, _⟩ := h.rng.map
    rcases hh.2 with ⟨rfl, _⟩ | ⟨g, cap, cur, rfl, _, hgg, _⟩
    · cases e
    · cases e; rw [q] at hgg; cases hgg
  have hv : v'.ownBlock ≠ some r := fun e => by
    have hr7 : W7.heap[r]? = W4.heap[r]? := (hg.block _ hr6 (fun e => h.ne e.symm)).trans (hb.block _ hR.lt)
    obtain ⟨es, clock, since, seen, c0, _, _, _, hit, _⟩ := hR
    rcases hown.2 with ⟨rfl, _⟩ | ⟨g, cap, cur, rfl, _, hgg, _⟩
    · cases e
    · cases e; rw [hr7, hit] at hgg; cases hgg
  refine ⟨?_, ?_, fun z => ?_, hb6.grown hg hb6.size (fun x hx => (h.own.lt x hx).1), ?_, h.ge, hv⟩
  · exact (hR.blk (hb.block _ hR.map.lt) (hb.block _ hR.lt)).blk (hg.block _ hlb6 (fun e => hlbne e.symm)) (hg.block _ hr6 (fun e => h.ne e.symm))
  · rw [List.length_append, List.map_append]; exact hown
  · rw [List.mem_append, h.mem z]
    constructor
    · rintro (⟨s', k', e, h1, h2⟩ | q)
      · exact ⟨s', k', e, h1, fun c => h2 c.1⟩
      · exact ⟨s, k, by simpa using q, hk, fun c => c.2 rfl⟩
    · rintro ⟨s', k', e, h1, h2⟩
      by_cases e2 : (s', k') = (s, k)
      · injection e2 with a b
        exact .inr (by rw [e, b]; simp)
      · exact .inl ⟨s', k', e, h1, fun c => h2 ⟨c, e2⟩⟩
  · have := h.len
    rw [List.length_append]; simp; omega
set_option maxRecDepth 100000 in
theorem homes_any {w : World} {j dp : Nat} {FP : List Nat} {d : Dv} {T : List (List Nat)} {off : Bool} (h : Jour w j dp FP d T off) {n : Nat} (hT : GoodT n T) (hn : n ≤ 65536) :
    Calls Tryd.prog 73 #[.pointer (some ⟨j, 0, none⟩)] w fun e w' => ∃ a cap hs, e = .returned (.slice a hs.length cap) ∧ (∀ k, k ∈ hs ↔ ∃ s, k ∈ T.getD s []) ∧ hs.Pairwise (· < ·) ∧ RowI w' a (nz hs) ∧ Below w.heap.size w w' := by
  obtain ⟨F, lb, rfl, hd, hj, h1, h2⟩ := h
  obtain ⟨c0, c1, c2, c3⟩ := hj.c
  obtain ⟨m0, hm0⟩ := hj.live
  have hM := few2 hm0 (fun p v hv => by
    obtain ⟨a, _⟩ := lv_some hv
    have := (hT.home _ _ a).2
    have := slot_lt a
    have := hT.four
    exact ⟨by omega, by omega⟩)
  obtain ⟨W2, hrange, hR, hB2, hS2⟩ := hM.range kbL Tryd.underlying77
  obtain ⟨i0, hi, hz0, hz1, hz2⟩ := info_parts info3
  clear hd hj h1 h2 hm0
  go_enter Tryd.func73, Tryd.ntmps73
  go_wp2
  go_loopw [2] (fun v wr => ∃ left cnt zs, HmAt w wr lb w.heap.size 262144 T left cnt v zs) (fun _ wr => wr.rangeLeft lb w.heap.size)
  case atStart =>
    refine ⟨_, _, [], hR, World.ownsRow_nil _ _ _ _, fun z => ?_, hB2, by simpa using hR.cnt_le, Nat.le_refl _, by simp [Value.ownBlock]⟩
    constructor
    · intro q; cases q
    · rintro ⟨s, k, _, hk, hn⟩
      exact absurd ⟨_, by simp only [lv]; rw [if_pos hk]⟩ hn
  case round =>
    clear hR hrange hB2 hS2
    obtain ⟨left, cnt, zs, hH⟩ := hrel
    rcases hH.rng.next' kbL with ⟨_, hnone, hnx⟩ | ⟨a, v, W4, cnt', hleft, hv, hnx, hR4, hlt, ho4, hg4, hs4, hen⟩
    · have hE := hm_end hH hT hn hnone
      have HE : Hid _ := hE
      clear hE
      go_wp2_with (first
        | (go_at_call 67; refine Calls.mono HE.out ?_; rintro e w3 ⟨rfl, hC⟩; have HC : Hid _ := hC; clear hC)
        | (go_at_call 87; refine Calls.mono HC.out ?_; rintro e w4 ⟨a, cap, hs, rfl, p1, p2, p3, p4⟩))
      go_ret
      exact ⟨a, cap, hs, rfl, p1, p2, p3, p4⟩
    · obtain ⟨hin, rfl⟩ := lv_some hv
      obtain ⟨s, k⟩ := a
      have HIN : Hid (k ∈ T.getD s []) := hin
      have HLE : Hid (left (s, k)) := hleft
      have hown4 : W4.ownsRow w.heap.size 3 1 u2 zs.length (zs.map (Value.int .i64)) := hH.own.kept hg4 (.inr hH.ne)
      have hlen := hH.len
      have hcp : 1 ≤ cnt := by omega
      have hBW : w.heap.size ≤ W4.heap.size := by rw [hs4]; exact hH.bel.size
      have HS4 : Hid (W4.heap.size = wr.heap.size) := hs4
      have s5 : (W4.alloc (.cells #[.int .i64 (s : Int), .int .i64 (k : Int)] 106)).heap.size = W4.heap.size + 1 := by show (W4.heap.push _).size = _; simp
      have b5 : Below W4.heap.size W4 (W4.alloc (.cells #[.int .i64 (s : Int), .int .i64 (k : Int)] 106)) := (Below.refl _ _).alloc (Nat.le_refl _) _
      have HB6 : Hid (Below W4.heap.size W4 ((W4.alloc (.cells #[.int .i64 (s : Int), .int .i64 (k : Int)] 106)).alloc (.cells #[.int .i64 (k : Int)] 3))) := b5.alloc b5.size _
      have hnw : ∀ (j : Nat) (u : Value), [Value.int .i64 (k : Int)][j]? = some u → ((W4.alloc (.cells #[.int .i64 (s : Int), .int .i64 (k : Int)] 106)).alloc (.cells #[.int .i64 (k : Int)] 3)).cell? ((⟨W4.heap.size + 1, 0, none⟩ : Addr).add j) = some u := by
        intro j u hj
        have e := heap_alloc_new (W4.alloc (.cells #[.int .i64 (s : Int), .int .i64 (k : Int)] 106)) (.cells #[.int .i64 (k : Int)] 3)
        rw [s5] at e
        rw [Addr.add_lit, cell_of_row _ _ _ _ _ _ e]
        simpa using hj
      have h1c : ∀ u ∈ [Value.int .i64 (k : Int)], u.oneCell' = true := by intro u hu; simp at hu; subst hu; rfl
      have hown6 := (hown4.alloc (.cells #[.int .i64 (s : Int), .int .i64 (k : Int)] 106)).alloc (.cells #[.int .i64 (k : Int)] 3)
      have x1 : zs.length + 1 ≤ maxLen := by unfold maxLen; omega
      have x2 : (zs.length + 1) * 8 ≤ 140737488355328 := by omega
      have x3 : w.heap.size ≤ ((W4.alloc (.cells #[.int .i64 (s : Int), .int .i64 (k : Int)] 106)).alloc (.cells #[.int .i64 (k : Int)] 3)).heap.size := Nat.le_trans hBW HB6.out.size
      clear hin hleft hv hs4 s5 b5 hown4
      go_wp2_with (at_builtin; refine wpList_append_own _ rfl _ _ 47 rfl w.heap.size 3 i0 (.int .i64 0) 1 8 Tryd.underlying47 hi hz0 hz1 hz2 rfl (by decide) u2 zs.length (zs.map (Value.int .i64)) rfl hown6 ⟨W4.heap.size + 1, 0, none⟩ 1 1 [.int .i64 (k : Int)] rfl rfl hnw h1c x1 x2 x3 ?_; intro v' w7 hown7 hg7 hnil7)
      have hN := hH.step HIN.out HLE.out hlt hR4 hg4 HB6.out hg7 hown7
      exact ⟨⟨_, _, _, hN⟩, by rw [hN.rng.left_eq, hH.rng.left_eq]; exact hlt⟩
end Go.Proofs.YtohncckmennfbaaDoor
