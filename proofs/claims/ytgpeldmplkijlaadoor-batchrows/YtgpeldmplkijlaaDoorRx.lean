/- The document's own CheckBatch. -/
import Derived.Test.YtgpeldmplkijlaaDoorRk
namespace Go.Proofs.YtgpeldmplkijlaaDoor
set_option linter.unusedSimpArgs false
set_option linter.unusedVariables false
open Go.RowKit
theorem wr_nums {b : Ba} (h : numsB b = false) : chkB b = 1 := by
  have : wrE b = 1 := by unfold wrE; rw [h]; simp
  unfold chkB
  rw [this]
  simp
theorem wr_rise {b : Ba} (h : ¬ Rise b.rs b.span) : chkB b = 1 := by
  have : wrE b = 1 := by unfold wrE; rw [rise_no h]; simp
  unfold chkB
  rw [this]
  simp
theorem wr_fst {b : Ba} (hn : numsB b = true) (h : Rise b.rs b.span) : wrE b = fstE b.rs := by unfold wrE; rw [hn, rise_yes h]; simp
theorem chk_neg {r : Rc} (h : r.o < 0) : chk r = 1 := by
  unfold chk
  rw [if_pos]
  unfold oddB
  simp [h]
theorem wr_neg {b : Ba} (hn : numsB b = true) (h0 : 0 < b.rs.length) (h : (b.rs.getD 0 rz).o < 0) : chkB b = 1 := by
  by_cases hr : Rise b.rs b.span
  · have e1 := fst_at b.rs 0 h0 (fun x hx => by omega) (by rw [chk_neg h]; omega)
    have : wrE b = 1 := by rw [wr_fst hn hr, e1, chk_neg h]
    unfold chkB
    rw [this]
    simp
  · exact wr_rise hr
theorem wr_at {b : Ba} (hn : numsB b = true) (hr : Rise b.rs b.span) (k : Nat) (hk : k < b.rs.length) (h : ∀ x, x < k → chk (b.rs.getD x rz) = 0) (hc : chk (b.rs.getD k rz) ≠ 0) : chkB b = chk (b.rs.getD k rz) := by
  have e := wr_fst hn hr
  rw [fst_at b.rs k hk h hc] at e
  unfold chkB
  rw [e, if_neg hc]
theorem wr_all {b : Ba} (hn : numsB b = true) (hr : Rise b.rs b.span) (h : ∀ x, x < b.rs.length → chk (b.rs.getD x rz) = 0) : wrE b = 0 := by rw [wr_fst hn hr, fst_zero b.rs h]
/-- The texts' sizes. -/
def szs (rs : List Rc) : Nat := (rs.map fun r => r.k.size + r.v.size).sum
theorem szs_take (rs : List Rc) (k : Nat) (h : k < rs.length) : szs (rs.take (k + 1)) = szs (rs.take k) + ((rs.getD k rz).k.size + (rs.getD k rz).v.size) := by
  unfold szs
  rw [List.take_succ_eq_append_getElem h, List.map_append, List.sum_append]
  simp [List.getD, h]
theorem size_nil {s : ByteArray} (h : s.toList = []) : s.size = 0 := by
  rw [empty_of h]
  rfl
theorem enc_ge {r : Rc} (first : Int) (h : chk r = 0) : r.k.size + r.v.size ≤ (encL r first).length := by
  obtain ⟨_, _, _, _, _, _, hk, hv⟩ := chk_ok h
  have e1 : r.k.size ≤ (textL r.hk r.k).length := by
    unfold textL
    cases e : r.hk
    · rw [size_nil (hk e)]; omega
    · simp [sb_len]
  have e2 : r.v.size ≤ (textL r.hv r.v).length := by
    unfold textL
    cases e : r.hv
    · rw [size_nil (hv e)]; omega
    · simp [sb_len]
  unfold encL
  simp only [List.length_cons, List.length_append]
  omega
theorem szs_le {rs : List Rc} (first : Int) (h : ∀ r, r ∈ rs → chk r = 0) : szs rs ≤ (bodyL rs first).length := by
  induction rs with
  | nil => simp [szs]
  | cons r t ih =>
    have h1 := ih (fun q hq => h q (by simp [hq]))
    have h2 := enc_ge first (h r (by simp))
    rw [body_cons, List.length_append]
    simp only [szs, List.map_cons, List.sum_cons] at h1 ⊢
    omega
theorem rise_pre {rs : List Rc} {span : Int} (h : Rise rs span) (k : Nat) (hk : k ≤ rs.length) (hc : ∀ x, x < k → chk (rs.getD x rz) = 0) (hs : span ≤ 100) : k ≤ 100 := by
  have hg : ∀ i, i < k → (i : Int) ≤ (rs.getD i rz).o := by
    intro i
    induction i with
    | zero =>
      intro hi
      have := (chk_ok (hc 0 hi)).2.2.1
      omega
    | succ i ih =>
      intro hi
      have h1 := ih (by omega)
      have h2 := (h (i + 1) (by omega)).2 (by omega)
      simp only [Nat.add_sub_cancel] at h2
      omega
  by_cases h0 : k = 0
  · omega
  · have h3 := hg (k - 1) (by omega)
    have h4 := (h (k - 1) (by omega)).1
    omega
theorem szs_bd {rs : List Rc} (k : Nat) (hk : k ≤ rs.length) (hc : ∀ x, x < k → chk (rs.getD x rz) = 0) : szs (rs.take k) ≤ k * 4000 := by
  induction k with
  | zero => simp [szs]
  | succ k ih =>
    rw [szs_take rs k (by omega)]
    have := ih (by omega) (fun x hx => hc x (by omega))
    obtain ⟨_, _, _, _, k1, v1, _⟩ := chk_ok (hc k (by omega))
    omega
set_option maxHeartbeats 4000000 in
set_option maxRecDepth 100000 in
theorem rcheckB_any (b : Ba) (a : Option Addr) (cap : Nat) (w : World) (hr : RRow w a b.rs) (hi : In64B b) (hl : b.rs.length ≤ maxLen) :
    Calls Tryd.prog 17 #[bav b a cap] w fun e w' => e = .returned (.int .i64 (chkB b)) ∧ Below w.heap.size w w' := by
  have hl0 := hl
  unfold maxLen at hl
  have PN : Hid (numsB b = false → chkB b = 1) := wr_nums
  have PR : Hid (¬ Rise b.rs b.span → chkB b = 1) := wr_rise
  have PG : Hid (numsB b = true → (b.rs.getD 0 rz).o < 0 → 0 < b.rs.length → chkB b = 1) := fun h1 h2 h3 => wr_neg h1 h3 h2
  have PA : Hid (numsB b = true → Rise b.rs b.span → ∀ k, k < b.rs.length → (∀ x, x < k → chk (b.rs.getD x rz) = 0) → chk (b.rs.getD k rz) ≠ 0 → chkB b = chk (b.rs.getD k rz)) := fun h1 h2 k => wr_at h1 h2 k
  have PZ : Hid (numsB b = true → Rise b.rs b.span → (∀ x, x < b.rs.length → chk (b.rs.getD x rz) = 0) → wrE b = 0) := wr_all
  have PS : Hid (∀ n, (∀ x, x < b.rs.length → chk (b.rs.getD x rz) = 0) → szs b.rs = n → wrE b = 0 → 6000 < n → chkB b = 2) := by
    intro n h hn hw hs
    have hc := (wr_ok hw).2.2.2.2.2.2
    have := szs_le (frs b) hc
    unfold chkB
    rw [if_pos hw, if_pos (by omega)]
  have PC : Hid (∀ m, wrE b = 0 → (tailL b).length = m → chkB b = if 6000 < m + 16 then 2 else 0) := by
    intro m hw hm
    have := tail_len b
    unfold chkB
    rw [if_pos hw, show 48 + (bodyL b.rs (frs b)).length = m + 16 by omega]
  have PB : Hid (∀ x, RRow x a b.rs → wrE b = 0 → Calls Tryd.prog 33 #[bav b a cap] x fun e w' => ∃ v, e = .returned v ∧ w'.ownsRow x.heap.size 5 1 v (tailL b).length (cv (tailL b)) ∧ Below x.heap.size x w') := fun x hx hw => rbody_any b a cap x hx hi hw
  have PM : Hid (wrE b = 0 → (∀ i, (tailL b).getD i 0 < 256) ∧ (tailL b).length ≤ 600000) := by
    intro hw
    refine ⟨lt_mem (fun x hx => encB_mem hw x (by unfold encBL; exact List.mem_append_right _ hx)), ?_⟩
    have h1 := body_len (frs b) (wr_ok hw).2.2.2.2.2.2
    have h2 := (wr_len hw).1
    have h3 := tail_len b
    omega
  have PL : Hid (wrE b = 0 → b.rs.length ≤ 100) := fun hw => (wr_len hw).1
  obtain ⟨c, HC⟩ : ∃ c, Hid (chkB b = c) := ⟨_, rfl⟩
  have HNU : Hid (numsB b = (baseB b.base && decide (1 ≤ b.span) && decide (b.span ≤ 100) && decide (0 ≤ b.prod) && decide (0 ≤ b.seq) && decide (0 < b.rs.length))) := rfl
  rw [HC.out] at PN PR PG PA PS PC ⊢
  obtain ⟨W0, HW0⟩ : ∃ W0, Hid (wrE b = W0) := ⟨_, rfl⟩
  rw [HW0.out] at PZ PS PC PB PM PL
  generalize tailL b = TL at *
  generalize numsB b = nb at *
  clear HC HW0 hi
  obtain ⟨base, span, prod, seq, rs⟩ := b
  simp only [bav] at *
  simp only [baseB] at HNU
  have HR0 : Hid (RRow w a rs) := hr
  clear hr
  have HZ : Hid (∀ cs, Below w.heap.size w (w.alloc (.cells cs 24))) := fun cs => below_box _
  by_cases h1 : base < 0
  · have h1d : decide (base < 0) = true := decide_eq_true h1
    go_enter Tryd.func17, Tryd.ntmps17
    go_wp2_with fail
    go_ret
    refine ⟨retI (PN.out ?_).symm, HZ.out _⟩
    rw [HNU.out]
    simp
    try omega
  · have h1d : decide (base < 0) = false := decide_eq_false h1
    by_cases h2 : 1125899906842624 < base
    · have h2d : decide (1125899906842624 < base) = true := decide_eq_true h2
      go_enter Tryd.func17, Tryd.ntmps17
      go_wp2_with fail
      go_ret
      refine ⟨retI (PN.out ?_).symm, HZ.out _⟩
      rw [HNU.out]
      simp
      try omega
    · have h2d : decide (1125899906842624 < base) = false := decide_eq_false h2
      by_cases h3 : span < 1
      · have h3d : decide (span < 1) = true := decide_eq_true h3
        go_enter Tryd.func17, Tryd.ntmps17
        go_wp2_with fail
        go_ret
        refine ⟨retI (PN.out ?_).symm, HZ.out _⟩
        rw [HNU.out]
        simp
        try omega
      · have h3d : decide (span < 1) = false := decide_eq_false h3
        by_cases h4 : 100 < span
        · have h4d : decide (100 < span) = true := decide_eq_true h4
          go_enter Tryd.func17, Tryd.ntmps17
          go_wp2_with fail
          go_ret
          refine ⟨retI (PN.out ?_).symm, HZ.out _⟩
          rw [HNU.out]
          simp
          try omega
        · have h4d : decide (100 < span) = false := decide_eq_false h4
          by_cases h5 : prod < 0
          · have h5d : decide (prod < 0) = true := decide_eq_true h5
            go_enter Tryd.func17, Tryd.ntmps17
            go_wp2_with fail
            go_ret
            refine ⟨retI (PN.out ?_).symm, HZ.out _⟩
            rw [HNU.out]
            simp
            try omega
          · have h5d : decide (prod < 0) = false := decide_eq_false h5
            by_cases h6 : seq < 0
            · have h6d : decide (seq < 0) = true := decide_eq_true h6
              go_enter Tryd.func17, Tryd.ntmps17
              go_wp2_with fail
              go_ret
              refine ⟨retI (PN.out ?_).symm, HZ.out _⟩
              rw [HNU.out]
              simp
              try omega
            · have h6d : decide (seq < 0) = false := decide_eq_false h6
              by_cases h7 : ((rs.length : Int) == 0) = true
              · go_enter Tryd.func17, Tryd.ntmps17
                go_wp2_with fail
                go_ret
                refine ⟨retI (PN.out ?_).symm, HZ.out _⟩
                rw [HNU.out]
                have : rs.length = 0 := by simpa using h7
                simp [this]
              have h7d : ((rs.length : Int) == 0) = false := by simpa using h7
              have hpos : 0 < rs.length := by
                rcases Nat.eq_zero_or_pos rs.length with h | h
                · exact absurd (by rw [h]; rfl) h7
                · exact h
              have hnb : nb = true := by
                rw [HNU.out]
                simp [hpos]
                omega
              subst hnb
              clear HNU PN
              go_enter Tryd.func17, Tryd.ntmps17
              go_wp2_with fail
              have HB0 : Hid (BxS w (bcells ⟨base, span, prod, seq, rs⟩ a cap) (w.alloc (.cells #[.int .i64 base, .int .i64 span, .int .i64 prod, .int .i64 seq, .slice a rs.length cap] 24))) := BxS.new w _
              have HSP : Hid (span ≤ 100) := (by show _ ≤ _; omega)
              clear h1 h1d h2 h2d h3 h3d h4 h4d h5 h5d h6 h6d h7 h7d HZ
              go_loopw [3, 4] (fun l i wr => ∃ (k : Nat) (z : Int), k ≤ rs.length ∧ i = .int .i64 k ∧ l = .int .i64 z ∧ (k = 0 → z = -1) ∧ (0 < k → z = (rs.getD (k - 1) rz).o) ∧ (∀ x, x < k → RiseAt rs span x) ∧ BxS w (bcells ⟨base, span, prod, seq, rs⟩ a cap) wr) (fun _ i _ => rs.length - (intOf i).toNat)
              case atStart => exact ⟨0, -1, by omega, rfl, rfl, fun _ => rfl, fun h => absurd h (by omega), by intro x hx; omega, HB0.out⟩
              case round =>
                obtain ⟨k, z, hk, rfl, rfl, hz0, hz1, hS, hB⟩ := hrel
                have HS : Hid (∀ x, x < k → RiseAt rs span x) := hS
                have HB : Hid (BxS w (bcells ⟨base, span, prod, seq, rs⟩ a cap) wr) := hB
                obtain ⟨c0, c1, c2, c3, c4, cz⟩ := BxS.cells hB
                simp only at c0 c1 c2 c3 c4
                clear hS hB HB0
                by_cases hlt : k < rs.length
                · have hltI : (k : Int) < (rs.length : Int) := by omega
                  have HQ : Hid ((rs.getD k rz).o < span → z < (rs.getD k rz).o → ∀ x, x < k + 1 → RiseAt rs span x) := by
                    intro e1 e2 j hj
                    by_cases hjk : j = k
                    · subst hjk
                      exact ⟨e1, fun h => by rw [← hz1 h]; exact e2⟩
                    · exact HS.out j (by omega)
                  have HN : Hid (¬ ((rs.getD k rz).o < span ∧ z < (rs.getD k rz).o) → c = 1) := by
                    intro h
                    by_cases hk0 : k = 0
                    · by_cases ho : (rs.getD 0 rz).o < 0
                      · exact PG.out trivial ho hpos
                      · refine PR.out (fun q => h ⟨(q k hlt).1, ?_⟩)
                        rw [hz0 hk0, hk0]
                        omega
                    · refine PR.out (fun q => h ⟨(q k hlt).1, ?_⟩)
                      rw [hz1 (by omega)]
                      exact (q k hlt).2 (by omega)
                  obtain ⟨b', off, rfl, z0, z1, z2, z3, z4, z5⟩ := (RRow.below HR0.out HB.out.bel) k hlt
                  have hbz := World.block_lt_of_cell? _ _ z0
                  simp only at hbz
                  have HBB : Hid (∀ cs, BxS w (bcells ⟨base, span, prod, seq, rs⟩ (some ⟨b', off, none⟩) cap) (wr.alloc (.cells cs 58))) := fun cs => BxS.below HB.out (below_box _)
                  have HO : Hid (∀ o, (rs.getD k rz).o = o → (rs.getD (k + 1 - 1) rz).o = o) := fun o h => by rw [Nat.add_sub_cancel]; exact h
                  clear hz0 hz1
                  generalize rs.getD k rz = r at *
                  obtain ⟨hk', kk, hv, v, t, o⟩ := r
                  simp only at z0 z1 z2 z3 z4 z5
                  by_cases g1 : o ≤ z
                  · have g1d : decide (o ≤ z) = true := decide_eq_true g1
                    go_wp2_with fail
                    go_ret
                    exact ⟨retI (HN.out (fun q => absurd q.2 (by show ¬ z < o; omega))).symm, (HBB.out _).bel⟩
                  · have g1d : decide (o ≤ z) = false := decide_eq_false g1
                    by_cases g2 : span ≤ o
                    · have g2d : decide (span ≤ o) = true := decide_eq_true g2
                      go_wp2_with fail
                      go_ret
                      exact ⟨retI (HN.out (fun q => absurd q.1 (by show ¬ o < span; omega))).symm, (HBB.out _).bel⟩
                    · have g2d : decide (span ≤ o) = false := decide_eq_false g2
                      go_wp2_with fail
                      exact ⟨⟨k + 1, o, by omega, by go_num, rfl, fun h => absurd h (by omega), fun _ => (HO.out o rfl).symm, HQ.out (by show o < span; omega) (by show z < o; omega), HBB.out _⟩, by simp [intOf]; omega⟩
                · obtain rfl : k = rs.length := by omega
                  have HRS : Hid (Rise rs span) := HS.out
                  clear HS hz0 hz1 PR PG
                  have HB1 := HB
                  clear HB
                  have HSZ : Hid (szs (rs.take rs.length) = szs rs) := by show _ = _; rw [List.take_length]
                  have HWR : Hid ((∀ x, x < rs.length → chk (rs.getD x rz) = 0) → W0 = 0) := fun h => PZ.out trivial HRS.out h
                  go_wp2_with fail
                  clear c0 c1 c2 c3 c4 cz
                  go_loopw [6, 7] (fun n i wr => ∃ (k : Nat), k ≤ rs.length ∧ i = .int .i64 k ∧ n = .int .i64 ((szs (rs.take k) : Nat) : Int) ∧ (∀ x, x < k → chk (rs.getD x rz) = 0) ∧ BxS w (bcells ⟨base, span, prod, seq, rs⟩ a cap) wr) (fun _ i _ => rs.length - (intOf i).toNat)
                  case atStart => exact ⟨0, by omega, rfl, rfl, by intro x hx; omega, HB1.out⟩
                  case round =>
                    clear HB1
                    obtain ⟨k, hk, rfl, rfl, hS, hB⟩ := hrel
                    have HS : Hid (∀ x, x < k → chk (rs.getD x rz) = 0) := hS
                    have HB : Hid (BxS w (bcells ⟨base, span, prod, seq, rs⟩ a cap) wr) := hB
                    have hk100 := rise_pre HRS.out k hk hS HSP.out
                    have hnb := szs_bd k hk hS
                    obtain ⟨c0, c1, c2, c3, c4, cz⟩ := BxS.cells hB
                    simp only at c0 c1 c2 c3 c4
                    clear hS hB
                    by_cases hlt : k < rs.length
                    · have hltI : (k : Int) < (rs.length : Int) := by omega
                      have HQ : Hid (chk (rs.getD k rz) = 0 → ∀ x, x < k + 1 → chk (rs.getD x rz) = 0) := by
                        intro e j hj
                        by_cases hjk : j = k
                        · subst hjk; exact e
                        · exact HS.out j (by omega)
                      have HN : Hid (chk (rs.getD k rz) ≠ 0 → c = chk (rs.getD k rz)) := fun h => PA.out trivial HRS.out k hlt HS.out h
                      have HST : Hid (szs (rs.take (k + 1)) = szs (rs.take k) + ((rs.getD k rz).k.size + (rs.getD k rz).v.size)) := szs_take rs k hlt
                      have HKV : Hid (chk (rs.getD k rz) = 0 → (rs.getD k rz).k.size ≤ 2000 ∧ (rs.getD k rz).v.size ≤ 2000) := fun h => ⟨(chk_ok h).2.2.2.2.1, (chk_ok h).2.2.2.2.2.1⟩
                      have HCK : Hid _ := rcheck_any (rs.getD k rz)
                      have HRR := RRow.below HR0.out HB.out.bel
                      obtain ⟨b', off, rfl, z0, z1, z2, z3, z4, z5⟩ := HRR k hlt
                      have hbz := World.block_lt_of_cell? _ _ z0
                      simp only at hbz
                      have HRX : Hid (∀ x, Below wr.heap.size wr x → x.cell? ⟨b', off + k * 6 + 1, none⟩ = some (.string (rs.getD k rz).k) ∧ x.cell? ⟨b', off + k * 6 + 3, none⟩ = some (.string (rs.getD k rz).v)) := fun x hx => ⟨(hx.cell (World.block_lt_of_cell? _ _ z1)).trans z1, (hx.cell (World.block_lt_of_cell? _ _ z3)).trans z3⟩
                      clear HRR
                      generalize szs (rs.take k) = S at *
                      generalize rs.getD k rz = r at *
                      obtain ⟨cc, HC0⟩ : ∃ cc, Hid (chk r = cc) := ⟨_, rfl⟩
                      rw [HC0.out] at HCK HQ HN HKV
                      obtain ⟨hk', kk, hv, v, t, o⟩ := r
                      simp only at z0 z1 z2 z3 z4 z5
                      simp only [Rc.cells] at HCK
                      by_cases h0 : cc = 0
                      · subst h0
                        obtain ⟨kb, vb⟩ := HKV.out rfl
                        simp only at kb vb
                        have kbI : (kk.size : Int) ≤ 2000 := by omega
                        have vbI : (v.size : Int) ≤ 2000 := by omega
                        have hSI : (S : Int) ≤ 400000 := by omega
                        have w1 : IntKind.i64.wrap ((S : Int) + (kk.size : Int)) = (S : Int) + (kk.size : Int) := by rw [IntKind.wrap_i64]; omega
                        have w2 : IntKind.i64.wrap ((S : Int) + (kk.size : Int) + (v.size : Int)) = (S : Int) + (kk.size : Int) + (v.size : Int) := by rw [IntKind.wrap_i64]; omega
                        go_wp2_with (go_at_call 36; refine (HCK.out _).mono ?_; rintro e w4 ⟨rfl, hb4⟩; have HB4 : Hid (BxS w (bcells ⟨base, span, prod, seq, rs⟩ (some ⟨b', off, none⟩) cap) w4) := BxS.below HB.out hb4; obtain ⟨y1, y3⟩ := HRX.out w4 hb4; clear c0 c1 c2 c3 c4 cz z0 z1 z2 z3 z4 z5; obtain ⟨c0, c1, c2, c3, c4, cz⟩ := BxS.cells HB4.out; simp only at c0 c1 c2 c3 c4 y1 y3)
                        go_quiet (fail)
                        go_wp2
                        refine ⟨⟨k + 1, by omega, by go_num, ?_, HQ.out trivial, ?_⟩, by simp [intOf]; omega⟩
                        · rw [HST.out]; go_num
                        · exact BxS.below HB4.out (below_drewN (Below.refl _ _) _)
                      · have h0' : (cc != 0) = true := by rw [bne_iff_ne]; exact h0
                        go_wp2_with (go_at_call 36; refine (HCK.out _).mono ?_; rintro e w4 ⟨rfl, hb4⟩; have HB4 : Hid (Below w.heap.size w w4) := HB.out.bel.trans (hb4.mono HB.out.bel.size))
                        go_ret
                        exact ⟨retI (HN.out (by simpa using h0')).symm, HB4.out⟩
                    · obtain rfl : k = rs.length := by omega
                      have hW := HWR.out HS.out
                      subst hW
                      obtain ⟨n0, HN0⟩ : ∃ n0, Hid (szs rs = n0) := ⟨_, rfl⟩
                      rw [HSZ.out, HN0.out] at hnb ⊢
                      by_cases h6 : (6000 : Int) < (n0 : Int)
                      · have h6d : decide ((6000 : Int) < (n0 : Int)) = true := decide_eq_true h6
                        go_wp2_with fail
                        go_ret
                        exact ⟨retI (PS.out n0 HS.out HN0.out (by trivial) (by omega)).symm, HB.out.bel⟩
                      · have h6d : decide ((6000 : Int) < (n0 : Int)) = false := decide_eq_false h6
                        obtain ⟨HTB, hTL⟩ := PM.out rfl
                        have HTB2 : Hid (∀ i, TL.getD i 0 < 256) := HTB
                        clear HTB
                        obtain ⟨m, HM⟩ : ∃ m, Hid (TL.length = m) := ⟨_, rfl⟩
                        have hcm := PC.out m rfl HM.out
                        have HPB : Hid _ := fun x hx => PB.out x hx rfl
                        rw [HM.out] at hTL
                        have w3 : IntKind.i64.wrap ((m : Int) + 16) = (m : Int) + 16 := by rw [IntKind.wrap_i64]; omega
                        have HCM : Hid (c = if 6000 < m + 16 then 2 else 0) := hcm
                        clear hcm
                        by_cases h8 : (6000 : Int) < (m : Int) + 16
                        · go_wp2_with (go_at_call 33; refine (HPB.out _ (RRow.below HR0.out HB.out.bel)).mono ?_; rintro e w5 ⟨v5, rfl, hown5, hb5⟩; obtain ⟨a5, k5, rfl, hr5, hn5⟩ := owns_sl hown5 HTB2.out; rw [HM.out]; have HB5 : Hid (Below w.heap.size w w5) := HB.out.bel.trans (hb5.mono HB.out.bel.size); clear hown5 hr5 hn5)
                          go_ret
                          exact ⟨retI (by rw [HCM.out, if_pos (by omega)]), HB5.out⟩
                        · go_wp2_with (go_at_call 33; refine (HPB.out _ (RRow.below HR0.out HB.out.bel)).mono ?_; rintro e w5 ⟨v5, rfl, hown5, hb5⟩; obtain ⟨a5, k5, rfl, hr5, hn5⟩ := owns_sl hown5 HTB2.out; rw [HM.out]; have HB5 : Hid (Below w.heap.size w w5) := HB.out.bel.trans (hb5.mono HB.out.bel.size); clear hown5 hr5 hn5)
                          go_ret
                          exact ⟨retI (by rw [HCM.out, if_neg (by omega)]), HB5.out⟩
end Go.Proofs.YtgpeldmplkijlaaDoor
