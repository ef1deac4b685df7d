/- The document's own Decode, any bytes. -/
import Derived.Test.YtgpeldmplkijlaaDoorRw
import Derived.Test.YtgpeldmplkijlaaDoorPf
import Derived.Test.YtgpeldmplkijlaaDoorDe
namespace Go.Proofs.YtgpeldmplkijlaaDoor
set_option linter.unusedSimpArgs false
set_option linter.unusedVariables false
open Go.RowKit
set_option maxRecDepth 100000 in
theorem rdec_no (a : Option Addr) (cap : Nat) (l : List Nat) (first : Int) (u : World) (hr : Row u a l) (hl : l.length ≤ cap) (hc : cap ≤ maxLen) (hg : gate l first = false) :
    Calls Tryd.prog 41 #[.slice a l.length cap, .int .i64 first] u fun e w' => e = .returned (.tuple #[.agg rz.cells, .int .i64 0, .int .i64 10]) ∧ Below u.heap.size u w' := by
  unfold maxLen at hc
  have h0 : True := trivial
  by_cases ht : timeB first = true
  · obtain ⟨f0, f1⟩ := (time_iff first).1 ht
    have g0I : ¬ first < 0 := by omega
    have g1I : ¬ 1125899906842624 < first := by omega
    by_cases h1 : 0 < l.length
    · have h3 : 3 < l.getD 0 0 := by
        simp only [gate, ht, Bool.true_and, Bool.and_eq_false_iff, decide_eq_false_iff_not] at hg
        omega
      obtain ⟨b, off, rfl, hc0, hlt⟩ := hr 0 h1
      rw [Nat.add_zero] at hc0
      clear hr hg
      generalize l.getD 0 0 = c at *
      have hbw : b < u.heap.size := World.block_lt_of_cell? _ _ hc0
      have h0I : ((l.length : Int) == 0) = false := by rw [beq_eq_false_iff_ne]; omega
      have h0J : (0 : Int) < (l.length : Int) := by omega
      have h3I : (3 : Int) < (c : Int) := by omega
      go_enter Tryd.func41, Tryd.ntmps41
      go_wp2_with (first
        | (refine wpList_load_row rfl 58 _ rfl (u.heap.size + 1) rfl 58 rz.cells (0, 0) _ (two_box (Below.refl _ _)).2.1 Tryd.underlying58 rfl Tryd.info58 ?_)
        | (refine wpList_store_row rfl 58 _ _ rfl u.heap.size rz.cells rfl rfl 58 rz.cells (two_box (Below.refl _ _)).1 Tryd.info58 rfl (rc_one _) ?_))
      refine bodyPost_ret (v := .tuple #[.agg rz.cells, .int .i64 0, .int .i64 10]) ?_ rfl ⟨rfl, ?_⟩
      · exact results_rec (p := 4) (u := 5) (u2 := 6) (by rfl) _ _ u.heap.size rz _ _ (by rfl) (by rfl) (by rfl) (setRow_heap _ _ _ _ _ _ (two_box (Below.refl _ _)).1)
      · exact below_setRow (two_box (Below.refl _ _)).2.2 (Nat.le_refl _) _
    · have h0I : l.length = 0 := by omega
      rw [h0I]
      clear hr hg ht
      go_enter Tryd.func41, Tryd.ntmps41
      go_wp2_with (first
        | (refine wpList_load_row rfl 58 _ rfl (u.heap.size + 1) rfl 58 rz.cells (0, 0) _ (two_box (Below.refl _ _)).2.1 Tryd.underlying58 rfl Tryd.info58 ?_)
        | (refine wpList_store_row rfl 58 _ _ rfl u.heap.size rz.cells rfl rfl 58 rz.cells (two_box (Below.refl _ _)).1 Tryd.info58 rfl (rc_one _) ?_))
      refine bodyPost_ret (v := .tuple #[.agg rz.cells, .int .i64 0, .int .i64 10]) ?_ rfl ⟨rfl, ?_⟩
      · exact results_rec (p := 4) (u := 5) (u2 := 6) (by rfl) _ _ u.heap.size rz _ _ (by rfl) (by rfl) (by rfl) (setRow_heap _ _ _ _ _ _ (two_box (Below.refl _ _)).1)
      · exact below_setRow (two_box (Below.refl _ _)).2.2 (Nat.le_refl _) _
  · have hq : first < 0 ∨ 1125899906842624 < first := by
      have : ¬ (0 ≤ first ∧ first ≤ 1125899906842624) := fun c => ht ((time_iff first).2 c)
      omega
    clear hr hg ht
    rcases hq with hq | hq
    · go_enter Tryd.func41, Tryd.ntmps41
      go_wp2_with (first
        | (refine wpList_load_row rfl 58 _ rfl (u.heap.size + 1) rfl 58 rz.cells (0, 0) _ (two_box (Below.refl _ _)).2.1 Tryd.underlying58 rfl Tryd.info58 ?_)
        | (refine wpList_store_row rfl 58 _ _ rfl u.heap.size rz.cells rfl rfl 58 rz.cells (two_box (Below.refl _ _)).1 Tryd.info58 rfl (rc_one _) ?_))
      refine bodyPost_ret (v := .tuple #[.agg rz.cells, .int .i64 0, .int .i64 10]) ?_ rfl ⟨rfl, ?_⟩
      · exact results_rec (p := 4) (u := 5) (u2 := 6) (by rfl) _ _ u.heap.size rz _ _ (by rfl) (by rfl) (by rfl) (setRow_heap _ _ _ _ _ _ (two_box (Below.refl _ _)).1)
      · exact below_setRow (two_box (Below.refl _ _)).2.2 (Nat.le_refl _) _
    · have hq2 : ¬ first < 0 := by omega
      go_enter Tryd.func41, Tryd.ntmps41
      go_wp2_with (first
        | (refine wpList_load_row rfl 58 _ rfl (u.heap.size + 1) rfl 58 rz.cells (0, 0) _ (two_box (Below.refl _ _)).2.1 Tryd.underlying58 rfl Tryd.info58 ?_)
        | (refine wpList_store_row rfl 58 _ _ rfl u.heap.size rz.cells rfl rfl 58 rz.cells (two_box (Below.refl _ _)).1 Tryd.info58 rfl (rc_one _) ?_))
      refine bodyPost_ret (v := .tuple #[.agg rz.cells, .int .i64 0, .int .i64 10]) ?_ rfl ⟨rfl, ?_⟩
      · exact results_rec (p := 4) (u := 5) (u2 := 6) (by rfl) _ _ u.heap.size rz _ _ (by rfl) (by rfl) (by rfl) (setRow_heap _ _ _ _ _ _ (two_box (Below.refl _ _)).1)
      · exact below_setRow (two_box (Below.refl _ _)).2.2 (Nat.le_refl _) _
theorem cut_one (b off cap i : Nat) (h : ¬ cap = i) : cutA (some ⟨b, off, none⟩) cap i = some ⟨b, off + i, none⟩ := by
  unfold cutA
  rw [if_neg h, Option.map_some, Addr.add_lit]
theorem cut_all (b off cap : Nat) : cutA (some ⟨b, off, none⟩) cap cap = some ⟨b, off, none⟩ := by
  unfold cutA
  rw [if_pos rfl]
theorem p1_drop (l : List Nat) : p1 l = l.drop (1 + numN (p0 l)) := by
  unfold p1 p0
  rw [List.drop_drop]
theorem p2_drop (l : List Nat) : p2 l = l.drop (1 + numN (p0 l) + numN (p1 l)) := by
  show (p1 l).drop (numN (p1 l)) = _
  conv => lhs; rw [p1_drop, List.drop_drop]
  rw [← p1_drop]
theorem txt_at {b off cap : Nat} {l q : List Nat} {i : Nat} {ii : Int} (hl6 : l.length ≤ 6000) (hl : l.length ≤ cap) (hc : cap ≤ maxLen) (hq : q = l.drop i) (hii : ii = ((i : Nat) : Int)) (hi : i ≤ l.length) {x : ByteArray} {j : Int}
    (hx : (if okT q = true then strN ((q.drop (numN q)).take (numV q)) else ⟨#[]⟩) = x) (hj : (if okT q = true then ((i + numN q + numV q : Nat) : Int) else -1) = j) :
    ∀ w', Row w' (some ⟨b, off, none⟩) l → Calls Tryd.prog 58 #[.slice (some ⟨b, off, none⟩) l.length cap, .int .i64 ii] w' fun e w2 => e = .returned (.tuple #[.string x, .int .i64 j]) ∧ w2 = w' := by
  intro w' h
  subst hx hj hii hq
  exact rtext_any b off cap l i w' h hl6 hl hc hi
set_option maxHeartbeats 1000000 in
theorem rdecode_any (a : Option Addr) (cap : Nat) (l : List Nat) (first : Int) (u : World) (hr : Row u a l) (hl6 : l.length ≤ 6000) (hl : l.length ≤ cap) (hc : cap ≤ maxLen) :
    Calls Tryd.prog 41 #[.slice a l.length cap, .int .i64 first] u fun e w' => e = .returned (.tuple #[.agg (decR l first).cells, .int .i64 ((decN l first : Nat) : Int), .int .i64 (decE l first)]) ∧ Below u.heap.size u w' := by
  have hbad : okD l first = false → Value.tuple #[.agg (decR l first).cells, .int .i64 ((decN l first : Nat) : Int), .int .i64 (decE l first)] = .tuple #[.agg rz.cells, .int .i64 0, .int .i64 10] := by
    intro h
    unfold decR decN decE
    rw [h]
    rfl
  by_cases hg : gate l first = true
  · obtain ⟨ht, h0, h3⟩ := gate_parts hg
    obtain ⟨f0, f1⟩ := (time_iff first).1 ht
    have hlt := hr.lt 0
    obtain ⟨b, off, rfl, hc0, _⟩ := hr 0 h0
    rw [Nat.add_zero] at hc0
    have hcm : cap ≤ 9223372036854775807 := by unfold maxLen at hc; exact hc
    have hBW : Below u.heap.size u ((u.alloc (.cells rz.cells 58)).alloc (.cells rz.cells 58)) := (two_box (Below.refl _ _)).2.2
    have hrW := hr.below hBW
    have U0 := runv_from (some ⟨b, off, none⟩) cap l 1 _ hrW hl hc
    have hn0le := numN_le (p0 l)
    have hp0 : (p0 l).length = l.length - 1 := by simp [p0]
    have V0le := numV_le (p0 l)
    have V1le := numV_le (p1 l)
    change Calls Tryd.prog 56 #[.slice (cutA (some ⟨b, off, none⟩) cap 1) (l.length - 1) (cap - 1)] _ fun e w' => e = .returned (.tuple #[.int .u64 ((numV (p0 l) : Nat) : Int), .int .i64 ((numN (p0 l) : Nat) : Int)]) ∧ w' = _ at U0
    have hno : ¬ Reads l first → okD l first = false := by
      intro hR
      cases h : okD l first
      · rfl
      · exact absurd (reads_of f0 f1 h) hR
    by_cases hn0 : numN (p0 l) = 0
    · rw [hbad (hno fun h => h.n0 hn0)]
      rw [hn0] at U0
      by_cases hc1 : cap = 1
      · obtain rfl : cap = l.length := by omega
        rw [hc1, cut_all, Nat.sub_self] at U0
        rw [hc1]
        exact rdec_0a b off first u _ hc0 h3 f0 f1 _ U0
      · rw [cut_one b off cap 1 hc1] at U0
        exact rdec_0b b off cap l.length first u _ hc0 h0 hl6 hl hcm h3 f0 f1 hc1 _ U0
    · have hc1 : ¬ cap = 1 := by omega
      have hn0' : (((numN (p0 l) : Nat) : Int) == 0) = false := by rw [beq_eq_false_iff_ne]; omega
      rw [cut_one b off cap 1 hc1] at U0
      by_cases hV : 100 ≤ numV (p0 l)
      · rw [hbad (hno fun h => by have := h.v0; omega)]
        exact rdec_0c b off cap l.length first u _ hc0 h0 hl6 hl hcm h3 f0 f1 hc1 _ _ hn0' (by omega) U0
      · have hV' : ¬ (100 : Int) ≤ ((numV (p0 l) : Nat) : Int) := by omega
        have hi : 1 + numN (p0 l) ≤ l.length := by omega
        have U1 := runv_from (some ⟨b, off, none⟩) cap l (1 + numN (p0 l)) _ hrW hl hc
        rw [← p1_drop] at U1
        have hn1le := numN_le (p1 l)
        have hp1 : (p1 l).length = l.length - (1 + numN (p0 l)) := by rw [p1_drop, List.length_drop]
        have HZ := rzag_any ((numV (p1 l) : Nat) : Int) ((u.alloc (.cells rz.cells 58)).alloc (.cells rz.cells 58)) (by omega) (by omega)
        by_cases hc2 : cap = 1 + numN (p0 l)
        · obtain hll : l.length = 1 + numN (p0 l) := by omega
          have hn1 : numN (p1 l) = 0 := by omega
          rw [hbad (hno fun h => h.n1 hn1)]
          rw [hn1, hc2, cut_all, Nat.sub_self, hll, Nat.sub_self] at U1
          rw [hc2, hll, Nat.add_sub_cancel_left] at U0
          rw [hc2, hll]
          exact rdec_1a b off _ first u _ hc0 (by omega) (by omega) h3 f0 f1 _ _ (by omega) hn0' hV' rfl U0 _ _ U1 HZ
        · rw [cut_one b off cap _ hc2] at U1
          by_cases hn1 : numN (p1 l) = 0
          · rw [hbad (hno fun h => h.n1 hn1)]
            exact rdec_1b b off cap l.length first u _ hc0 h0 hl6 hl hcm h3 f0 f1 hc1 _ _ hn0' hV' U0 hi hc2 _ _ _ hn1 U1 HZ
          · have hn1' : (((numN (p1 l) : Nat) : Int) == 0) = false := by rw [beq_eq_false_iff_ne]; omega
            by_cases hd : zag (numV (p1 l)) < -first
            · rw [hbad (hno fun h => by have := h.t0; omega)]
              exact rdec_1c b off cap l.length first u _ hc0 h0 hl6 hl hcm h3 f0 f1 hc1 _ _ hn0' hV' U0 hi hc2 _ _ _ hn1' hd U1 HZ
            · by_cases hd2 : 1125899906842624 - first < zag (numV (p1 l))
              · rw [hbad (hno fun h => by have := h.t1; omega)]
                exact rdec_1d b off cap l.length first u _ hc0 h0 hl6 hl hcm h3 f0 f1 hc1 _ _ hn0' hV' U0 hi hc2 _ _ _ hn1' hd hd2 U1 HZ
              · have hi2 : 1 + numN (p0 l) + numN (p1 l) ≤ l.length := by omega
                have hw0 : IntKind.i64.wrap ((numV (p0 l) : Nat) : Int) = ((numV (p0 l) : Nat) : Int) := by rw [IntKind.wrap_i64]; omega
                have hwT : IntKind.i64.wrap (first + zag (numV (p1 l))) = first + zag (numV (p1 l)) := by rw [IntKind.wrap_i64]; omega
                have hkb : (bits .and .u8 ((l.getD 0 0 : Nat) : Int) 1 == 1) = hkOf l := by
                  rw [u8_and1 _ (by omega)]
                  unfold hkOf
                  generalize l.getD 0 0 = c at *
                  rw [Bool.eq_iff_iff]
                  simp
                  omega
                have hvb : (bits .and .u8 ((l.getD 0 0 : Nat) : Int) 2 == 2) = hvOf l := by
                  rw [u8_and2 _ (by omega)]
                  unfold hvOf
                  generalize l.getD 0 0 = c at *
                  rw [Bool.eq_iff_iff]
                  simp
                  omega
                have eI : (1 : Int) + ((numN (p0 l) : Nat) : Int) + ((numN (p1 l) : Nat) : Int) = ((1 + numN (p0 l) + numN (p1 l) : Nat) : Int) := by omega
                have hp2 := p2_drop l
                have hp2l : (p2 l).length = l.length - (1 + numN (p0 l) + numN (p1 l)) := by rw [hp2, List.length_drop]
                have RD : (hkOf l = true → okT (p2 l) = true) → (hvOf l = true → okT (p3 l) = true) → Reads l first := fun k v => ⟨hn0, by omega, hn1, by omega, by omega, k, v⟩
                cases hk : hkOf l with
                | false =>
                  rw [hk] at hkb
                  have hp3 : p3 l = p2 l := by unfold p3; rw [hk]; rfl
                  cases hv : hvOf l with
                  | false =>
                    rw [hv] at hvb
                    obtain ⟨ok, er⟩ := of_reads hg (RD (fun c => by rw [hk] at c; cases c) (fun c => by rw [hv] at c; cases c))
                    rw [hk, hv, if_neg (by simp), if_neg (by simp)] at er
                    have hp4 : p4 l = p2 l := by unfold p4; rw [hv, hp3]; rfl
                    have := rdec_ff b off cap l.length first u _ hc0 h0 hl6 hl hcm h3 f0 f1 hc1 _ _ hn0' hV' U0 hi hc2 _ _ _ hn1' hd hd2 U1 HZ hi2 l rfl hr hw0 hwT hkb hvb
                    unfold decR decN decE
                    rw [if_pos ok, if_pos ok, if_pos ok, er, hp4, hp2l]
                    rw [eI] at this
                    rw [show l.length - (l.length - (1 + numN (p0 l) + numN (p1 l))) = 1 + numN (p0 l) + numN (p1 l) by omega]
                    exact this
                  | true =>
                    rw [hv] at hvb
                    by_cases hT : okT (p2 l) = true
                    · obtain ⟨ok, er⟩ := of_reads hg (RD (fun c => by rw [hk] at c; cases c) (fun _ => by rw [hp3]; exact hT))
                      rw [hk, hv, if_neg (by simp), if_pos rfl, hp3] at er
                      obtain ⟨_, _, a3, _, a5⟩ := ok_tx hT false
                      have hp4 : (p4 l).length = l.length - (1 + numN (p0 l) + numN (p1 l) + numN (p2 l) + numV (p2 l)) := by
                        unfold p4; rw [hv, hp3, a3, List.length_drop, hp2l]; omega
                      have := rdec_ft b off cap l.length first u _ hc0 h0 hl6 hl hcm h3 f0 f1 hc1 _ _ hn0' hV' U0 hi hc2 _ _ _ hn1' hd hd2 U1 HZ hi2 l rfl hr hw0 hwT hkb hvb _ _ (by omega) (txt_at hl6 hl hc hp2 eI hi2 (if_pos hT) (if_pos hT))
                      unfold decR decN decE
                      rw [if_pos ok, if_pos ok, if_pos ok, er, hp4]
                      rw [show l.length - (l.length - (1 + numN (p0 l) + numN (p1 l) + numN (p2 l) + numV (p2 l))) = 1 + numN (p0 l) + numN (p1 l) + numN (p2 l) + numV (p2 l) by omega]
                      exact this
                    · rw [hbad (hno fun h => hT (by rw [← hp3]; exact h.v hv))]
                      exact rdec_fn b off cap l.length first u _ hc0 h0 hl6 hl hcm h3 f0 f1 hc1 _ _ hn0' hV' U0 hi hc2 _ _ _ hn1' hd hd2 U1 HZ hi2 l rfl hr hw0 hwT hkb hvb _ (-1) (by omega) (txt_at hl6 hl hc hp2 eI hi2 (if_neg hT) (if_neg hT))
                | true =>
                  rw [hk] at hkb
                  by_cases hT : okT (p2 l) = true
                  · obtain ⟨_, _, a3, _, a5⟩ := ok_tx hT false
                    have hj1 : 1 + numN (p0 l) + numN (p1 l) + numN (p2 l) + numV (p2 l) ≤ l.length := by omega
                    have hp3 : p3 l = l.drop (1 + numN (p0 l) + numN (p1 l) + numN (p2 l) + numV (p2 l)) := by
                      unfold p3; rw [hk, a3]
                      conv => lhs; rw [hp2, List.drop_drop]
                      rw [← hp2, Nat.add_assoc (1 + numN (p0 l) + numN (p1 l))]
                    have hp3l : (p3 l).length = l.length - (1 + numN (p0 l) + numN (p1 l) + numN (p2 l) + numV (p2 l)) := by rw [hp3, List.length_drop]
                    cases hv : hvOf l with
                    | false =>
                      rw [hv] at hvb
                      obtain ⟨ok, er⟩ := of_reads hg (RD (fun _ => hT) (fun c => by rw [hv] at c; cases c))
                      rw [hk, hv, if_pos rfl, if_neg (by simp)] at er
                      have hp4 : p4 l = p3 l := by unfold p4; rw [hv]; rfl
                      have := rdec_tf b off cap l.length first u _ hc0 h0 hl6 hl hcm h3 f0 f1 hc1 _ _ hn0' hV' U0 hi hc2 _ _ _ hn1' hd hd2 U1 HZ hi2 l rfl hr hw0 hwT hkb hvb _ _ (by omega) (txt_at hl6 hl hc hp2 eI hi2 (if_pos hT) (if_pos hT))
                      unfold decR decN decE
                      rw [if_pos ok, if_pos ok, if_pos ok, er, hp4, hp3l]
                      rw [show l.length - (l.length - (1 + numN (p0 l) + numN (p1 l) + numN (p2 l) + numV (p2 l))) = 1 + numN (p0 l) + numN (p1 l) + numN (p2 l) + numV (p2 l) by omega]
                      exact this
                    | true =>
                      rw [hv] at hvb
                      by_cases hT2 : okT (p3 l) = true
                      · obtain ⟨ok, er⟩ := of_reads hg (RD (fun _ => hT) (fun _ => hT2))
                        rw [hk, hv, if_pos rfl, if_pos rfl] at er
                        obtain ⟨_, _, d3, _, d5⟩ := ok_tx hT2 false
                        have hp4 : (p4 l).length = l.length - (1 + numN (p0 l) + numN (p1 l) + numN (p2 l) + numV (p2 l) + numN (p3 l) + numV (p3 l)) := by
                          unfold p4; rw [hv, d3, List.length_drop, hp3l]; omega
                        have := rdec_tt b off cap l.length first u _ hc0 h0 hl6 hl hcm h3 f0 f1 hc1 _ _ hn0' hV' U0 hi hc2 _ _ _ hn1' hd hd2 U1 HZ hi2 l rfl hr hw0 hwT hkb hvb _ _ _ _ (by omega) (by omega) (txt_at hl6 hl hc hp2 eI hi2 (if_pos hT) (if_pos hT)) (txt_at hl6 hl hc hp3 rfl hj1 (if_pos hT2) (if_pos hT2))
                        unfold decR decN decE
                        rw [if_pos ok, if_pos ok, if_pos ok, er, hp4]
                        rw [show l.length - (l.length - (1 + numN (p0 l) + numN (p1 l) + numN (p2 l) + numV (p2 l) + numN (p3 l) + numV (p3 l))) = 1 + numN (p0 l) + numN (p1 l) + numN (p2 l) + numV (p2 l) + numN (p3 l) + numV (p3 l) by omega]
                        exact this
                      · rw [hbad (hno fun h => hT2 (h.v hv))]
                        exact rdec_ttn b off cap l.length first u _ hc0 h0 hl6 hl hcm h3 f0 f1 hc1 _ _ hn0' hV' U0 hi hc2 _ _ _ hn1' hd hd2 U1 HZ hi2 l rfl hr hw0 hwT hkb hvb _ _ _ (-1) (by omega) (by omega) (txt_at hl6 hl hc hp2 eI hi2 (if_pos hT) (if_pos hT)) (txt_at hl6 hl hc hp3 rfl hj1 (if_neg hT2) (if_neg hT2))
                  · rw [hbad (hno fun h => hT (h.k hk))]
                    cases hv : hvOf l with
                    | false =>
                      rw [hv] at hvb
                      exact rdec_tn b off cap l.length first u _ hc0 h0 hl6 hl hcm h3 f0 f1 hc1 _ _ hn0' hV' U0 hi hc2 _ _ _ hn1' hd hd2 U1 HZ hi2 l rfl hr hw0 hwT hkb hvb _ (-1) (by omega) (txt_at hl6 hl hc hp2 eI hi2 (if_neg hT) (if_neg hT))
                    | true =>
                      rw [hv] at hvb
                      exact rdec_tn2 b off cap l.length first u _ hc0 h0 hl6 hl hcm h3 f0 f1 hc1 _ _ hn0' hV' U0 hi hc2 _ _ _ hn1' hd hd2 U1 HZ hi2 l rfl hr hw0 hwT hkb hvb _ (-1) (by omega) (txt_at hl6 hl hc hp2 eI hi2 (if_neg hT) (if_neg hT))
  · have hg' : gate l first = false := by simpa using hg
    have e : okD l first = false := by unfold okD; rw [hg']; rfl
    rw [hbad e]
    exact rdec_no a cap l first u hr hl hc hg'
end Go.Proofs.YtgpeldmplkijlaaDoor
