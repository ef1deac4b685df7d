/- The walk of BitsShort: true for every argument, and nothing that was there is turned. -/
import Derived.Test.YtffnhmccoacglaaShm
import Derived.Test.YtffnhmccoacglaaLnt
namespace Go.Proofs.Ytffnhmccoacglaa
set_option linter.unusedSimpArgs false
set_option linter.unusedVariables false
open Go.RowKit
theorem p7 (m : Nat) (h : m ≤ 9) : (2 : Int) ^ (7 * m) ≤ 9223372036854775808 := by have := p2le (7 * m) 63 (by omega); simpa using this
theorem p7nat (m : Nat) : (2 : Int) ^ (7 * m) = ((128 ^ m : Nat) : Int) := by
  have : (128 : Nat) ^ m = 2 ^ (7 * m) := by rw [Nat.pow_mul]
  rw [this]; simp
theorem row_take {w : World} {a : Option Addr} {l : List Nat} (h : Row w a l) (k : Nat) : Row w a (l.take k) := by
  intro i hi
  have hi2 : i < l.length ∧ i < k := by simp at hi; omega
  obtain ⟨b, off, e, hc, hl⟩ := h i hi2.1
  have e2 : (l.take k).getD i 0 = l.getD i 0 := by simp [List.getD, List.getElem?_take, hi2.2]
  rw [e2]
  exact ⟨b, off, e, hc, hl⟩
theorem own_empty {W : World} {B k : Nat} (hB : B ≤ k) (h : W.heap[k]? = some (.cells #[] 5 (0, 0))) : W.ownsRow B 5 1 (.slice (some ⟨k, 0, none⟩) 0 0) 0 [] :=
  ⟨rfl, .inr ⟨k, 0, #[], rfl, hB, h, Nat.le_refl _, by decide, rfl, rfl⟩⟩
theorem news_below {w1 W : World} {g : Nat} {l : List Nat} (h : ∀ j u, (cv l)[j]? = some u → w1.cell? ((⟨g, 0, none⟩ : Addr).add j) = some u) (hb : Below w1.heap.size w1 W) : ∀ j u, (cv l)[j]? = some u → W.cell? ((⟨g, 0, none⟩ : Addr).add j) = some u := by
  intro j u hj
  have := h j u hj
  rw [hb.cell (World.block_lt_of_cell? _ _ this)]
  exact this
theorem blk_new2 (w : World) (o0 o2 : Obj) : ((w.alloc o0).alloc o2).heap[w.heap.size + 1]? = some o2 := by
  have := heap_alloc_new (w.alloc o0) o2
  simpa using this
theorem blk_old2 (w : World) (o0 o2 : Obj) : ((w.alloc o0).alloc o2).heap[w.heap.size]? = some o0 :=
  (Below.heap_alloc (w.alloc o0) o2 w.heap.size (by simp)).trans (heap_alloc_new w o0)
theorem two_cell {W : World} {k : Nat} {x : Int} {c : Nat} (hx : x = c) (hb : W.heap[k]? = some (.cells #[.int .u8 x, .int .u8 0] 5 (0, 0))) : ∀ j u, (cv [c, 0])[j]? = some u → W.cell? ((⟨k, 0, none⟩ : Addr).add j) = some u := by
  subst hx
  exact World.news_of_block hb
theorem below_app {B n c K : Nat} {w0 W W1 : World} (hb : Below B w0 W) (hs : B ≤ W.heap.size) (hK : B ≤ K) (hg : W.grownBy W1 (Value.slice (some ⟨K, 0, none⟩) n c).ownBlock) : Below B w0 W1 :=
  hb.grown hg hs (fun k hk => by simp [Value.ownBlock] at hk; omega)
/-- append as one step of a region that draws: what is appended may be nothing. -/
theorem step_append_own {P : Program} (w : World) {ops : Array Oper} {o : Oper} {a : Act} {K : Act → World → Prop} {Q : Exit → Act → World → Prop} {E : Prop} (hgd : o.guard = none) (s x : Operand) (t : TypeId)
    (ho : o.op = .call { callee := .builtin .append, args := #[s, x], argTypes := #[t, t] })
    (base : Nat) (e : TypeId) (i : TypeInfo) (z : Value) (size bytes : Nat) (ht : P.underlying t = some (.slice e)) (hi : P.info? e = some i) (hz : i.zero = some z)
    (hsize : i.size = size) (hby : i.bytes = bytes) (hzs : z.cells.size = size) (hsz : 0 < size)
    (v : Value) (n : Nat) (xs : List Value) (hs : a.eval s = v) (hown : w.ownsRow base e size v n xs)
    (ad : Addr) (m c : Nat) (news : List Value) (hx : a.eval x = .slice (some ad) m c) (hl : news.length = m * size) (hnews : ∀ j u, news[j]? = some u → w.cell? (ad.add j) = some u) (h1 : ∀ u, u ∈ news → u.oneCell' = true)
    (h63 : n + m ≤ maxLen) (hbytes : (n + m) * bytes ≤ 140737488355328) (hbase : base ≤ w.heap.size)
    (h : ∀ v' w', w'.ownsRow base e size v' (n + m) (xs ++ news) → w.grownBy w' v.ownBlock → (v' = .slice none 0 0 ↔ v = .slice none 0 0 ∧ m = 0) → K (a.put o.dst v') w') :
    if Region.wanted o (yielded ops a.tmps) = true then Oper.wp P o a w K Q else E := by
  have hw : Region.wanted o (yielded ops a.tmps) = true := by simp [Region.wanted, hgd]
  rw [if_pos hw]
  exact wp_append_own w s x t ho base e i z size bytes ht hi hz hsize hby hzs hsz v n xs hs hown ad m c news hx hl hnews h1 h63 hbytes hbase h
set_option maxRecDepth 100000 in
set_option maxHeartbeats 4000000 in
theorem bitsShort_walk (a0 : Int) (a1 : Int) (w : World) (w0 : (Lit.int .u64 a0).wf = true) (w1 : (Lit.int .i64 a1).wf = true) :
    Calls Try.prog 10 #[.int .u64 a0, .int .i64 a1] w fun e w' => e = .returned (.bool true) ∧ Below w.heap.size w w' := by
  obtain ⟨b0, b1⟩ := bdu64 w0
  obtain ⟨V, rfl⟩ := Int.eq_ofNat_of_zero_le b0
  obtain ⟨c0, c1⟩ := bd64 w1
  clear w0 w1
  have hV : V ≤ 18446744073709551615 := by omega
  obtain ⟨H, z, hG, hH, hHl, hz, hlo, hhi⟩ := vr_split 9 V (by omega)
  have HG : Hid (groups V = H ++ [z]) := hG
  have hbt := groups_lt V hV
  obtain ⟨m, hm⟩ : ∃ m, H.length = m := ⟨_, rfl⟩
  have HM : Hid (H.length = m) := hm
  have hm9 : m ≤ 9 := by omega
  have HU0 : Hid (∀ k, uv (H.take k) 0 0 = (0, 0)) := fun k => uv_front H k hH (by omega)
  have HU1 : Hid (uv (H ++ [z + 128, 0]) 0 0 = (0, 0)) := uv_longer H z hH (by omega) hz
  have hge : 0 < m → ¬ (V : Int) < 2 ^ (7 * m) := by
    intro h
    rw [p7nat, ← hm]
    have : 128 ^ 1 ≤ 128 ^ H.length := Nat.pow_le_pow_right (by decide) (by omega)
    omega
  have hlt : m < 9 → ¬ 2 ^ (7 * (m + 1)) ≤ (V : Int) := by
    intro h
    rw [p7nat, ← hm]
    have := hhi (by omega)
    omega
  have HLb : Hid (∀ i, (H ++ [z + 128, 0]).getD i 0 < 256) := by
    intro i
    by_cases h : i < H.length
    · have := hH (H[i]) (List.getElem_mem h)
      simp [List.getD, List.getElem?_append, h]
      omega
    · obtain ⟨j, rfl⟩ : ∃ j, i = H.length + j := ⟨i - H.length, by omega⟩
      match j with
      | 0 => simp [List.getD]; omega
      | 1 => simp [List.getD]
      | j + 2 => rw [getD_out _ _ (by simp)]; omega
  rw [HG.out] at hbt
  have HBt : Hid (∀ i, (H ++ [z]).getD i 0 < 256) := hbt
  clear hG hH hHl hlo hhi hm hbt
  have hp := p7 m hm9
  have hp0 := p2pos (7 * m)
  have hn10 : (m : Int) + 1 ≤ 10 := by omega
  go_enter Try.func10, Try.ntmps10
  go_wp2_with fail
  refine (varint_any V _ hV).mono ?_
  rintro e w1 ⟨v, rfl, hown, hb1⟩
  rw [HG.out] at hown
  obtain ⟨g, cap, rfl, hown1⟩ := owns_some hown (by simp)
  have hlen : (H ++ [z]).length = m + 1 := by simp [HM.out]
  rw [hlen]
  clear hown hlen
  have hr : 0 ≤ a1 % ((m : Int) + 1) ∧ a1 % ((m : Int) + 1) < (m : Int) + 1 := ⟨Int.emod_nonneg _ (by omega), Int.emod_lt_of_pos _ (by omega)⟩
  obtain ⟨r, hrr⟩ := Int.eq_ofNat_of_zero_le hr.1
  have hr1 : (r : Int) ≤ (m : Int) := by omega
  have HRR : Hid (a1 % ((m : Int) + 1) = (r : Int)) := hrr
  clear hr hrr
  have hcap : m + 1 ≤ cap := by have := hown1.le.1; simp [HM.out] at this; omega
  have hways : (m = 0) ∨ (0 < m ∧ m < 9) ∨ m = 9 := by omega
  rcases hways with h0 | ⟨h1, h2⟩ | h9
  · have k1 : ¬ (1 : Int) < (m : Int) + 1 := by omega
    have k2 : (m : Int) + 1 < 10 := by omega
    have k4 := hlt (by omega)
    have k5 : (2 : Int) ^ (7 * (m + 1)) ≤ 9223372036854775808 := p7 (m + 1) (by omega)
    have k6 := p2pos (7 * (m + 1))
    clear hge hlt h0
    go_wp2_with fail
    refine (round_any a1 ((m : Int) + 1) w1 c0 c1 (by omega) (by omega)).mono ?_
    rintro e w2 ⟨rfl, hw⟩
    subst w2
    rw [HRR.out]
    clear k4 k5 k6 hp hp0 k1 k2
    have hrI : (r : Int) ≤ (cap : Int) := by omega
    go_wp2_with fail
    have hrow := hown1.row HBt.out
    have ht := unv_any (some ⟨g, 0, none⟩) cap (H.take r) w1 (by have := row_take hrow r; rwa [List.take_append_of_le_length (by rw [HM.out]; omega)] at this) (by have := List.length_take_le' r H; rw [HM.out] at this; unfold maxLen; omega)
    rw [HU0.out r, show (H.take r).length = r by rw [List.length_take, HM.out]; omega] at ht
    refine ht.mono ?_
    clear ht
    rintro e w2 ⟨rfl, hw⟩
    subst w2
    have hcz : w1.cell? ⟨g, m, none⟩ = some (.int .u8 ((z : Nat) : Int)) := by
      have := hown1.cell m (by simp [HM.out])
      rw [← HM.out] at this ⊢
      simpa [List.getD] using this
    have HN : Hid (∀ j u, (cv H)[j]? = some u → w1.cell? ((⟨g, 0, none⟩ : Addr).add j) = some u) := row_news (row_front hrow)
    have hg := hown1.ge
    have HB1 : Hid (Below w.heap.size w w1) := hb1
    have HS1 := hb1.size
    clear hrow hb1 hown1
    have hm0I : (0 : Int) ≤ (m : Int) := by omega
    have hmI : (m : Int) < (m : Int) + 1 := by omega
    have hmc : (m : Int) ≤ (cap : Int) := by omega
    have y1 : IntKind.i64.wrap ((m : Int) + 1 - 1) = (m : Int) := by rw [IntKind.wrap_i64]; omega
    have y2 : IntKind.i64.wrap (m : Int) = (m : Int) := by rw [IntKind.wrap_i64]; omega
    go_wp2_with fail
    have hor : bits .or .u8 ((z : Nat) : Int) 128 = ((z + 128 : Nat) : Int) := by
      rw [u8_or _ _ (by omega) (by omega) (by omega) (by omega)]
      have := or128_nat ⟨z, by omega⟩
      simp only at this
      rw [show ((z : Int)).toNat = z by omega, show ((128 : Int).toNat) = 128 by decide, this]
      omega
    have hln : (cv H).length = m * 1 := by rw [cv_length, HM.out]; omega
    have x1 : 0 + m ≤ maxLen := by unfold maxLen; omega
    have x2 : (0 + m) * 1 ≤ 140737488355328 := by omega
    have x3 : m + 2 ≤ maxLen := by unfold maxLen; omega
    have x4 : (m + 2) * 1 ≤ 140737488355328 := by omega
    obtain ⟨i0, hi, hz0, hz1, hz2⟩ := info_parts Try.info5
    go_region_held3 (fun w' => w'.cell? ⟨g, m, none⟩ = some (.int .u8 ((z : Nat) : Int)))
      (first
        | go_keep
        | (rw [hbW1.cell (p := ⟨g, m, none⟩) hg.2]; exact hcz)
        | (rw [(hbW1.alloc hbW1.size _).cell (p := ⟨g, m, none⟩) hg.2]; exact hcz)
        | (rw [hbW2.cell (p := ⟨g, m, none⟩) hg.2]; exact hcz))
      ((first
        | (refine step_append_own _ (by rfl) (.tmp 55) (.tmp 59) 22 (by rfl) w1.heap.size 5 i0 (.int .u8 0) 1 1 Try.underlying22 hi hz0 hz1 hz2 rfl (by decide) (.slice (some ⟨w1.heap.size, 0, none⟩) 0 0) 0 [] (by rfl) (own_empty (Nat.le_refl _) (by exact heap_alloc_new w1 _)) ⟨g, 0, none⟩ m cap (cv H) (by rfl) hln (news_below HN.out (by exact ((Below.refl _ _).alloc (Nat.le_refl _) _).drew)) (cv_one _) x1 x2 (by simp) ?_; intro v1 W1 hown1 hgr1 hnl1; have hbW1 : Below w1.heap.size w1 W1 := below_app (by exact ((Below.refl _ _).alloc (Nat.le_refl _) _).drew) (by simp) (Nat.le_refl _) hgr1; rw [Nat.zero_add, List.nil_append] at hown1)
        | (refine step_append_own _ (by rfl) (.tmp 55) (.tmp 59) 22 (by rfl) w1.heap.size 5 i0 (.int .u8 0) 1 1 Try.underlying22 hi hz0 hz1 hz2 rfl (by decide) (.slice (some ⟨w1.heap.size, 0, none⟩) 0 0) 0 [] (by rfl) (own_empty (Nat.le_refl _) (by exact blk_old2 w1 _ _)) ⟨g, 0, none⟩ m cap (cv H) (by rfl) hln (news_below HN.out (by exact (((Below.refl _ _).alloc (Nat.le_refl _) _).alloc (by simp) _).drew)) (cv_one _) x1 x2 (by simp; omega) ?_; intro v1 W1 hown1 hgr1 hnl1; have hbW1 : Below w1.heap.size w1 W1 := below_app (by exact (((Below.refl _ _).alloc (Nat.le_refl _) _).alloc (by simp) _).drew) (by simp; omega) (Nat.le_refl _) hgr1; have hblk := (hgr1.block (w1.heap.size + 1) (by simp) (by simp [Value.ownBlock])).trans (blk_new2 w1 _ _); rw [Nat.zero_add, List.nil_append] at hown1)
        | (refine step_append_own _ (by rfl) (.tmp 55) (.tmp 59) 22 (by rfl) w1.heap.size 5 i0 (.int .u8 0) 1 1 Try.underlying22 hi hz0 hz1 hz2 rfl (by decide) (.slice (some ⟨w1.heap.size + 1, 0, none⟩) 0 0) 0 [] (by rfl) (own_empty (Nat.le_succ _) (by exact blk_new2 w1 _ _)) ⟨g, 0, none⟩ m cap (cv H) (by rfl) hln (news_below HN.out (by exact (((Below.refl _ _).alloc (Nat.le_refl _) _).alloc (by simp) _).drew)) (cv_one _) x1 x2 (by simp; omega) ?_; intro v1 W1 hown1 hgr1 hnl1; have hbW1 : Below w1.heap.size w1 W1 := below_app (by exact (((Below.refl _ _).alloc (Nat.le_refl _) _).alloc (by simp) _).drew) (by simp; omega) (Nat.le_succ _) hgr1; have hblk := (hgr1.block w1.heap.size (by simp; omega) (by simp [Value.ownBlock])).trans (blk_old2 w1 _ _); rw [Nat.zero_add, List.nil_append] at hown1)
        | (have _t := hblk; refine step_append_own _ (by rfl) (.tmp 60) (.tmp 67) 22 (by rfl) w1.heap.size 5 i0 (.int .u8 0) 1 1 Try.underlying22 hi hz0 hz1 hz2 rfl (by decide) v1 m (cv H) (by rfl) (by exact hown1) ⟨w1.heap.size + 1, 0, none⟩ 2 2 (cv [z + 128, 0]) (by rfl) (by rfl) (by exact two_cell (by omega) hblk) (cv_one _) x3 x4 (by exact hbW1.size) ?_; intro v2 W2 hown2 hgr2 hnl2; have hbW2 : Below w1.heap.size w1 W2 := own_bel hown1 hbW1 hbW1.size hgr2)
        | (have _t := hblk; refine step_append_own _ (by rfl) (.tmp 60) (.tmp 67) 22 (by rfl) w1.heap.size 5 i0 (.int .u8 0) 1 1 Try.underlying22 hi hz0 hz1 hz2 rfl (by decide) v1 m (cv H) (by rfl) (by exact hown1) ⟨w1.heap.size, 0, none⟩ 2 2 (cv [z + 128, 0]) (by rfl) (by rfl) (by exact two_cell (by omega) hblk) (cv_one _) x3 x4 (by exact hbW1.size) ?_; intro v2 W2 hown2 hgr2 hnl2; have hbW2 : Below w1.heap.size w1 W2 := own_bel hown1 hbW1 hbW1.size hgr2)
        | (have _t := hbW1; refine step_append_own _ (by rfl) (.tmp 60) (.tmp 67) 22 (by rfl) w1.heap.size 5 i0 (.int .u8 0) 1 1 Try.underlying22 hi hz0 hz1 hz2 rfl (by decide) v1 m (cv H) (by rfl) (by exact hown1.alloc _) ⟨W1.heap.size, 0, none⟩ 2 2 (cv [z + 128, 0]) (by rfl) (by rfl) (by exact two_cell (by omega) (heap_alloc_new W1 _)) (cv_one _) x3 x4 (by have := hbW1.size; simp; omega) ?_; intro v2 W2 hown2 hgr2 hnl2; have hbW2 : Below w1.heap.size w1 W2 := own_bel (hown1.alloc _) (hbW1.alloc hbW1.size _) (by have := hbW1.size; simp; omega) hgr2)))
    all_goals
      have hF : W2.ownsRow w1.heap.size 5 1 v2 (H ++ [z + 128, 0]).length (cv (H ++ [z + 128, 0])) := by
        rw [cv_append, show (H ++ [z + 128, 0]).length = m + 2 by simp [HM.out]]
        exact hown2
      obtain ⟨a2, cap2, hv2, hrow2, hm2⟩ := owns_row hF HLb.out
      have HB2 : Hid (Below w.heap.size w W2) := HB1.out.trans (hbW2.mono HS1)
      have hl2 : (H ++ [z + 128, 0]).length = m + 2 := by simp [HM.out]
      rw [hl2] at hv2
      have HL2 : Hid ((H ++ [z + 128, 0]).length = m + 2) := hl2
      rw [hv2]
      clear hl2 hF hown2 hgr2 hnl2 hown1 hgr1 hnl1 hbW1 hbW2 hv2
      go_wp2_with fail
      have ht := unv_any a2 cap2 (H ++ [z + 128, 0]) W2 hrow2 hm2
      rw [HL2.out, HU1.out] at ht
      refine ht.mono ?_
      clear ht
      rintro e w3 ⟨rfl, hw⟩
      subst w3
      clear hrow2 hm2
      go_wp2_with fail
      refine (awake_any _).mono ?_
      rintro e w4 ⟨rfl, hb4⟩
      have HB4 : Hid (Below w.heap.size w w4) := HB2.out.trans (hb4.mono HB2.out.size)
      clear hb4
      go_wp2_with fail
      go_ret
      exact ⟨rfl, HB4.out⟩
  · have k1 : (0 : Int) < (m : Int) := by omega
    have k2 : (m : Int) < 9 := by omega
    have k3 := hge h1
    have k4 := hlt h2
    have k5 : (2 : Int) ^ (7 * (m + 1)) ≤ 9223372036854775808 := p7 (m + 1) (by omega)
    have k6 := p2pos (7 * (m + 1))
    clear hge hlt h1 h2
    go_wp2_with fail
    refine (round_any a1 ((m : Int) + 1) w1 c0 c1 (by omega) (by omega)).mono ?_
    rintro e w2 ⟨rfl, hw⟩
    subst w2
    rw [HRR.out]
    clear k3 k4 k5 k6 hp hp0 k1 k2
    have hrI : (r : Int) ≤ (cap : Int) := by omega
    go_wp2_with fail
    have hrow := hown1.row HBt.out
    have ht := unv_any (some ⟨g, 0, none⟩) cap (H.take r) w1 (by have := row_take hrow r; rwa [List.take_append_of_le_length (by rw [HM.out]; omega)] at this) (by have := List.length_take_le' r H; rw [HM.out] at this; unfold maxLen; omega)
    rw [HU0.out r, show (H.take r).length = r by rw [List.length_take, HM.out]; omega] at ht
    refine ht.mono ?_
    clear ht
    rintro e w2 ⟨rfl, hw⟩
    subst w2
    have hcz : w1.cell? ⟨g, m, none⟩ = some (.int .u8 ((z : Nat) : Int)) := by
      have := hown1.cell m (by simp [HM.out])
      rw [← HM.out] at this ⊢
      simpa [List.getD] using this
    have HN : Hid (∀ j u, (cv H)[j]? = some u → w1.cell? ((⟨g, 0, none⟩ : Addr).add j) = some u) := row_news (row_front hrow)
    have hg := hown1.ge
    have HB1 : Hid (Below w.heap.size w w1) := hb1
    have HS1 := hb1.size
    clear hrow hb1 hown1
    have hm0I : (0 : Int) ≤ (m : Int) := by omega
    have hmI : (m : Int) < (m : Int) + 1 := by omega
    have hmc : (m : Int) ≤ (cap : Int) := by omega
    have y1 : IntKind.i64.wrap ((m : Int) + 1 - 1) = (m : Int) := by rw [IntKind.wrap_i64]; omega
    have y2 : IntKind.i64.wrap (m : Int) = (m : Int) := by rw [IntKind.wrap_i64]; omega
    go_wp2_with fail
    have hor : bits .or .u8 ((z : Nat) : Int) 128 = ((z + 128 : Nat) : Int) := by
      rw [u8_or _ _ (by omega) (by omega) (by omega) (by omega)]
      have := or128_nat ⟨z, by omega⟩
      simp only at this
      rw [show ((z : Int)).toNat = z by omega, show ((128 : Int).toNat) = 128 by decide, this]
      omega
    have hln : (cv H).length = m * 1 := by rw [cv_length, HM.out]; omega
    have x1 : 0 + m ≤ maxLen := by unfold maxLen; omega
    have x2 : (0 + m) * 1 ≤ 140737488355328 := by omega
    have x3 : m + 2 ≤ maxLen := by unfold maxLen; omega
    have x4 : (m + 2) * 1 ≤ 140737488355328 := by omega
    obtain ⟨i0, hi, hz0, hz1, hz2⟩ := info_parts Try.info5
    go_region_held3 (fun w' => w'.cell? ⟨g, m, none⟩ = some (.int .u8 ((z : Nat) : Int)))
      (first
        | go_keep
        | (rw [hbW1.cell (p := ⟨g, m, none⟩) hg.2]; exact hcz)
        | (rw [(hbW1.alloc hbW1.size _).cell (p := ⟨g, m, none⟩) hg.2]; exact hcz)
        | (rw [hbW2.cell (p := ⟨g, m, none⟩) hg.2]; exact hcz))
      ((first
        | (refine step_append_own _ (by rfl) (.tmp 55) (.tmp 59) 22 (by rfl) w1.heap.size 5 i0 (.int .u8 0) 1 1 Try.underlying22 hi hz0 hz1 hz2 rfl (by decide) (.slice (some ⟨w1.heap.size, 0, none⟩) 0 0) 0 [] (by rfl) (own_empty (Nat.le_refl _) (by exact heap_alloc_new w1 _)) ⟨g, 0, none⟩ m cap (cv H) (by rfl) hln (news_below HN.out (by exact ((Below.refl _ _).alloc (Nat.le_refl _) _).drew)) (cv_one _) x1 x2 (by simp) ?_; intro v1 W1 hown1 hgr1 hnl1; have hbW1 : Below w1.heap.size w1 W1 := below_app (by exact ((Below.refl _ _).alloc (Nat.le_refl _) _).drew) (by simp) (Nat.le_refl _) hgr1; rw [Nat.zero_add, List.nil_append] at hown1)
        | (refine step_append_own _ (by rfl) (.tmp 55) (.tmp 59) 22 (by rfl) w1.heap.size 5 i0 (.int .u8 0) 1 1 Try.underlying22 hi hz0 hz1 hz2 rfl (by decide) (.slice (some ⟨w1.heap.size, 0, none⟩) 0 0) 0 [] (by rfl) (own_empty (Nat.le_refl _) (by exact blk_old2 w1 _ _)) ⟨g, 0, none⟩ m cap (cv H) (by rfl) hln (news_below HN.out (by exact (((Below.refl _ _).alloc (Nat.le_refl _) _).alloc (by simp) _).drew)) (cv_one _) x1 x2 (by simp; omega) ?_; intro v1 W1 hown1 hgr1 hnl1; have hbW1 : Below w1.heap.size w1 W1 := below_app (by exact (((Below.refl _ _).alloc (Nat.le_refl _) _).alloc (by simp) _).drew) (by simp; omega) (Nat.le_refl _) hgr1; have hblk := (hgr1.block (w1.heap.size + 1) (by simp) (by simp [Value.ownBlock])).trans (blk_new2 w1 _ _); rw [Nat.zero_add, List.nil_append] at hown1)
        | (refine step_append_own _ (by rfl) (.tmp 55) (.tmp 59) 22 (by rfl) w1.heap.size 5 i0 (.int .u8 0) 1 1 Try.underlying22 hi hz0 hz1 hz2 rfl (by decide) (.slice (some ⟨w1.heap.size + 1, 0, none⟩) 0 0) 0 [] (by rfl) (own_empty (Nat.le_succ _) (by exact blk_new2 w1 _ _)) ⟨g, 0, none⟩ m cap (cv H) (by rfl) hln (news_below HN.out (by exact (((Below.refl _ _).alloc (Nat.le_refl _) _).alloc (by simp) _).drew)) (cv_one _) x1 x2 (by simp; omega) ?_; intro v1 W1 hown1 hgr1 hnl1; have hbW1 : Below w1.heap.size w1 W1 := below_app (by exact (((Below.refl _ _).alloc (Nat.le_refl _) _).alloc (by simp) _).drew) (by simp; omega) (Nat.le_succ _) hgr1; have hblk := (hgr1.block w1.heap.size (by simp; omega) (by simp [Value.ownBlock])).trans (blk_old2 w1 _ _); rw [Nat.zero_add, List.nil_append] at hown1)
        | (have _t := hblk; refine step_append_own _ (by rfl) (.tmp 60) (.tmp 67) 22 (by rfl) w1.heap.size 5 i0 (.int .u8 0) 1 1 Try.underlying22 hi hz0 hz1 hz2 rfl (by decide) v1 m (cv H) (by rfl) (by exact hown1) ⟨w1.heap.size + 1, 0, none⟩ 2 2 (cv [z + 128, 0]) (by rfl) (by rfl) (by exact two_cell (by omega) hblk) (cv_one _) x3 x4 (by exact hbW1.size) ?_; intro v2 W2 hown2 hgr2 hnl2; have hbW2 : Below w1.heap.size w1 W2 := own_bel hown1 hbW1 hbW1.size hgr2)
        | (have _t := hblk; refine step_append_own _ (by rfl) (.tmp 60) (.tmp 67) 22 (by rfl) w1.heap.size 5 i0 (.int .u8 0) 1 1 Try.underlying22 hi hz0 hz1 hz2 rfl (by decide) v1 m (cv H) (by rfl) (by exact hown1) ⟨w1.heap.size, 0, none⟩ 2 2 (cv [z + 128, 0]) (by rfl) (by rfl) (by exact two_cell (by omega) hblk) (cv_one _) x3 x4 (by exact hbW1.size) ?_; intro v2 W2 hown2 hgr2 hnl2; have hbW2 : Below w1.heap.size w1 W2 := own_bel hown1 hbW1 hbW1.size hgr2)
        | (have _t := hbW1; refine step_append_own _ (by rfl) (.tmp 60) (.tmp 67) 22 (by rfl) w1.heap.size 5 i0 (.int .u8 0) 1 1 Try.underlying22 hi hz0 hz1 hz2 rfl (by decide) v1 m (cv H) (by rfl) (by exact hown1.alloc _) ⟨W1.heap.size, 0, none⟩ 2 2 (cv [z + 128, 0]) (by rfl) (by rfl) (by exact two_cell (by omega) (heap_alloc_new W1 _)) (cv_one _) x3 x4 (by have := hbW1.size; simp; omega) ?_; intro v2 W2 hown2 hgr2 hnl2; have hbW2 : Below w1.heap.size w1 W2 := own_bel (hown1.alloc _) (hbW1.alloc hbW1.size _) (by have := hbW1.size; simp; omega) hgr2)))
    all_goals
      have hF : W2.ownsRow w1.heap.size 5 1 v2 (H ++ [z + 128, 0]).length (cv (H ++ [z + 128, 0])) := by
        rw [cv_append, show (H ++ [z + 128, 0]).length = m + 2 by simp [HM.out]]
        exact hown2
      obtain ⟨a2, cap2, hv2, hrow2, hm2⟩ := owns_row hF HLb.out
      have HB2 : Hid (Below w.heap.size w W2) := HB1.out.trans (hbW2.mono HS1)
      have hl2 : (H ++ [z + 128, 0]).length = m + 2 := by simp [HM.out]
      rw [hl2] at hv2
      have HL2 : Hid ((H ++ [z + 128, 0]).length = m + 2) := hl2
      rw [hv2]
      clear hl2 hF hown2 hgr2 hnl2 hown1 hgr1 hnl1 hbW1 hbW2 hv2
      go_wp2_with fail
      have ht := unv_any a2 cap2 (H ++ [z + 128, 0]) W2 hrow2 hm2
      rw [HL2.out, HU1.out] at ht
      refine ht.mono ?_
      clear ht
      rintro e w3 ⟨rfl, hw⟩
      subst w3
      clear hrow2 hm2
      go_wp2_with fail
      refine (awake_any _).mono ?_
      rintro e w4 ⟨rfl, hb4⟩
      have HB4 : Hid (Below w.heap.size w w4) := HB2.out.trans (hb4.mono HB2.out.size)
      clear hb4
      go_wp2_with fail
      go_ret
      exact ⟨rfl, HB4.out⟩
  · have k1 : (0 : Int) < (m : Int) := by omega
    have k2 : ¬ (m : Int) + 1 < 10 := by omega
    have k3 := hge (by omega)
    clear hge hlt h9
    go_wp2_with fail
    refine (round_any a1 ((m : Int) + 1) w1 c0 c1 (by omega) (by omega)).mono ?_
    rintro e w2 ⟨rfl, hw⟩
    subst w2
    rw [HRR.out]
    clear k3 hp hp0 k1 k2
    have hrI : (r : Int) ≤ (cap : Int) := by omega
    go_wp2_with fail
    have hrow := hown1.row HBt.out
    have ht := unv_any (some ⟨g, 0, none⟩) cap (H.take r) w1 (by have := row_take hrow r; rwa [List.take_append_of_le_length (by rw [HM.out]; omega)] at this) (by have := List.length_take_le' r H; rw [HM.out] at this; unfold maxLen; omega)
    rw [HU0.out r, show (H.take r).length = r by rw [List.length_take, HM.out]; omega] at ht
    refine ht.mono ?_
    clear ht
    rintro e w2 ⟨rfl, hw⟩
    subst w2
    have hcz : w1.cell? ⟨g, m, none⟩ = some (.int .u8 ((z : Nat) : Int)) := by
      have := hown1.cell m (by simp [HM.out])
      rw [← HM.out] at this ⊢
      simpa [List.getD] using this
    have HN : Hid (∀ j u, (cv H)[j]? = some u → w1.cell? ((⟨g, 0, none⟩ : Addr).add j) = some u) := row_news (row_front hrow)
    have hg := hown1.ge
    have HB1 : Hid (Below w.heap.size w w1) := hb1
    have HS1 := hb1.size
    clear hrow hb1 hown1
    have hm0I : (0 : Int) ≤ (m : Int) := by omega
    have hmI : (m : Int) < (m : Int) + 1 := by omega
    have hmc : (m : Int) ≤ (cap : Int) := by omega
    have y1 : IntKind.i64.wrap ((m : Int) + 1 - 1) = (m : Int) := by rw [IntKind.wrap_i64]; omega
    have y2 : IntKind.i64.wrap (m : Int) = (m : Int) := by rw [IntKind.wrap_i64]; omega
    go_wp2_with fail
    have hor : bits .or .u8 ((z : Nat) : Int) 128 = ((z + 128 : Nat) : Int) := by
      rw [u8_or _ _ (by omega) (by omega) (by omega) (by omega)]
      have := or128_nat ⟨z, by omega⟩
      simp only at this
      rw [show ((z : Int)).toNat = z by omega, show ((128 : Int).toNat) = 128 by decide, this]
      omega
    have hln : (cv H).length = m * 1 := by rw [cv_length, HM.out]; omega
    have x1 : 0 + m ≤ maxLen := by unfold maxLen; omega
    have x2 : (0 + m) * 1 ≤ 140737488355328 := by omega
    have x3 : m + 2 ≤ maxLen := by unfold maxLen; omega
    have x4 : (m + 2) * 1 ≤ 140737488355328 := by omega
    obtain ⟨i0, hi, hz0, hz1, hz2⟩ := info_parts Try.info5
    go_region_held3 (fun w' => w'.cell? ⟨g, m, none⟩ = some (.int .u8 ((z : Nat) : Int)))
      (first
        | go_keep
        | (rw [hbW1.cell (p := ⟨g, m, none⟩) hg.2]; exact hcz)
        | (rw [(hbW1.alloc hbW1.size _).cell (p := ⟨g, m, none⟩) hg.2]; exact hcz)
        | (rw [hbW2.cell (p := ⟨g, m, none⟩) hg.2]; exact hcz))
      ((first
        | (refine step_append_own _ (by rfl) (.tmp 55) (.tmp 59) 22 (by rfl) w1.heap.size 5 i0 (.int .u8 0) 1 1 Try.underlying22 hi hz0 hz1 hz2 rfl (by decide) (.slice (some ⟨w1.heap.size, 0, none⟩) 0 0) 0 [] (by rfl) (own_empty (Nat.le_refl _) (by exact heap_alloc_new w1 _)) ⟨g, 0, none⟩ m cap (cv H) (by rfl) hln (news_below HN.out (by exact ((Below.refl _ _).alloc (Nat.le_refl _) _).drew)) (cv_one _) x1 x2 (by simp) ?_; intro v1 W1 hown1 hgr1 hnl1; have hbW1 : Below w1.heap.size w1 W1 := below_app (by exact ((Below.refl _ _).alloc (Nat.le_refl _) _).drew) (by simp) (Nat.le_refl _) hgr1; rw [Nat.zero_add, List.nil_append] at hown1)
        | (refine step_append_own _ (by rfl) (.tmp 55) (.tmp 59) 22 (by rfl) w1.heap.size 5 i0 (.int .u8 0) 1 1 Try.underlying22 hi hz0 hz1 hz2 rfl (by decide) (.slice (some ⟨w1.heap.size, 0, none⟩) 0 0) 0 [] (by rfl) (own_empty (Nat.le_refl _) (by exact blk_old2 w1 _ _)) ⟨g, 0, none⟩ m cap (cv H) (by rfl) hln (news_below HN.out (by exact (((Below.refl _ _).alloc (Nat.le_refl _) _).alloc (by simp) _).drew)) (cv_one _) x1 x2 (by simp; omega) ?_; intro v1 W1 hown1 hgr1 hnl1; have hbW1 : Below w1.heap.size w1 W1 := below_app (by exact (((Below.refl _ _).alloc (Nat.le_refl _) _).alloc (by simp) _).drew) (by simp; omega) (Nat.le_refl _) hgr1; have hblk := (hgr1.block (w1.heap.size + 1) (by simp) (by simp [Value.ownBlock])).trans (blk_new2 w1 _ _); rw [Nat.zero_add, List.nil_append] at hown1)
        | (refine step_append_own _ (by rfl) (.tmp 55) (.tmp 59) 22 (by rfl) w1.heap.size 5 i0 (.int .u8 0) 1 1 Try.underlying22 hi hz0 hz1 hz2 rfl (by decide) (.slice (some ⟨w1.heap.size + 1, 0, none⟩) 0 0) 0 [] (by rfl) (own_empty (Nat.le_succ _) (by exact blk_new2 w1 _ _)) ⟨g, 0, none⟩ m cap (cv H) (by rfl) hln (news_below HN.out (by exact (((Below.refl _ _).alloc (Nat.le_refl _) _).alloc (by simp) _).drew)) (cv_one _) x1 x2 (by simp; omega) ?_; intro v1 W1 hown1 hgr1 hnl1; have hbW1 : Below w1.heap.size w1 W1 := below_app (by exact (((Below.refl _ _).alloc (Nat.le_refl _) _).alloc (by simp) _).drew) (by simp; omega) (Nat.le_succ _) hgr1; have hblk := (hgr1.block w1.heap.size (by simp; omega) (by simp [Value.ownBlock])).trans (blk_old2 w1 _ _); rw [Nat.zero_add, List.nil_append] at hown1)
        | (have _t := hblk; refine step_append_own _ (by rfl) (.tmp 60) (.tmp 67) 22 (by rfl) w1.heap.size 5 i0 (.int .u8 0) 1 1 Try.underlying22 hi hz0 hz1 hz2 rfl (by decide) v1 m (cv H) (by rfl) (by exact hown1) ⟨w1.heap.size + 1, 0, none⟩ 2 2 (cv [z + 128, 0]) (by rfl) (by rfl) (by exact two_cell (by omega) hblk) (cv_one _) x3 x4 (by exact hbW1.size) ?_; intro v2 W2 hown2 hgr2 hnl2; have hbW2 : Below w1.heap.size w1 W2 := own_bel hown1 hbW1 hbW1.size hgr2)
        | (have _t := hblk; refine step_append_own _ (by rfl) (.tmp 60) (.tmp 67) 22 (by rfl) w1.heap.size 5 i0 (.int .u8 0) 1 1 Try.underlying22 hi hz0 hz1 hz2 rfl (by decide) v1 m (cv H) (by rfl) (by exact hown1) ⟨w1.heap.size, 0, none⟩ 2 2 (cv [z + 128, 0]) (by rfl) (by rfl) (by exact two_cell (by omega) hblk) (cv_one _) x3 x4 (by exact hbW1.size) ?_; intro v2 W2 hown2 hgr2 hnl2; have hbW2 : Below w1.heap.size w1 W2 := own_bel hown1 hbW1 hbW1.size hgr2)
        | (have _t := hbW1; refine step_append_own _ (by rfl) (.tmp 60) (.tmp 67) 22 (by rfl) w1.heap.size 5 i0 (.int .u8 0) 1 1 Try.underlying22 hi hz0 hz1 hz2 rfl (by decide) v1 m (cv H) (by rfl) (by exact hown1.alloc _) ⟨W1.heap.size, 0, none⟩ 2 2 (cv [z + 128, 0]) (by rfl) (by rfl) (by exact two_cell (by omega) (heap_alloc_new W1 _)) (cv_one _) x3 x4 (by have := hbW1.size; simp; omega) ?_; intro v2 W2 hown2 hgr2 hnl2; have hbW2 : Below w1.heap.size w1 W2 := own_bel (hown1.alloc _) (hbW1.alloc hbW1.size _) (by have := hbW1.size; simp; omega) hgr2)))
    all_goals
      have hF : W2.ownsRow w1.heap.size 5 1 v2 (H ++ [z + 128, 0]).length (cv (H ++ [z + 128, 0])) := by
        rw [cv_append, show (H ++ [z + 128, 0]).length = m + 2 by simp [HM.out]]
        exact hown2
      obtain ⟨a2, cap2, hv2, hrow2, hm2⟩ := owns_row hF HLb.out
      have HB2 : Hid (Below w.heap.size w W2) := HB1.out.trans (hbW2.mono HS1)
      have hl2 : (H ++ [z + 128, 0]).length = m + 2 := by simp [HM.out]
      rw [hl2] at hv2
      have HL2 : Hid ((H ++ [z + 128, 0]).length = m + 2) := hl2
      rw [hv2]
      clear hl2 hF hown2 hgr2 hnl2 hown1 hgr1 hnl1 hbW1 hbW2 hv2
      go_wp2_with fail
      have ht := unv_any a2 cap2 (H ++ [z + 128, 0]) W2 hrow2 hm2
      rw [HL2.out, HU1.out] at ht
      refine ht.mono ?_
      clear ht
      rintro e w3 ⟨rfl, hw⟩
      subst w3
      clear hrow2 hm2
      go_wp2_with fail
      refine (awake_any _).mono ?_
      rintro e w4 ⟨rfl, hb4⟩
      have HB4 : Hid (Below w.heap.size w w4) := HB2.out.trans (hb4.mono HB2.out.size)
      clear hb4
      go_wp2_with fail
      go_ret
      exact ⟨rfl, HB4.out⟩
end Go.Proofs.Ytffnhmccoacglaa
