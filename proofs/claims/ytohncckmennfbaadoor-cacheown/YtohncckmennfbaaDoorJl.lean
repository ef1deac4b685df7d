/- load: what a table tells is taken; HasPrefix. -/
import Derived.Test.YtohncckmennfbaaDoorJo
import Derived.Laws.BytesArg
namespace Go.Proofs.YtohncckmennfbaaDoor
set_option linter.unusedSimpArgs false
set_option linter.unusedVariables false
open Go.RowKit Go.MapKept Go.Proofs
open Go.ChangeMaps (setBlock)
/-- What is taken ahead of the data block number q. -/
def lvp (T : List (List Nat)) (q : Nat) (p : Nat × Nat) : Option Value := if p.2 ∈ T.getD p.1 [] ∧ 60 * p.1 + (T.getD p.1 []).idxOf p.2 < q then some (.int .i64 ((dat T p.1 p.2 : Nat) : Int)) else none
def uat (T : List (List Nat)) (q : Nat) : Nat := min T.length ((q + 59) / 60)
theorem lvp_zero (T : List (List Nat)) : lvp T 0 = fun _ => none := by
  funext p; simp [lvp]
theorem lvp_end {n : Nat} {T : List (List Nat)} (h : GoodT n T) : lvp T 240 = lv T := by
  funext p
  unfold lvp lv
  by_cases hp : p.2 ∈ T.getD p.1 []
  · have := dat_lt h hp
    rw [if_pos ⟨hp, by unfold dat at this; omega⟩, if_pos hp]
  · rw [if_neg (fun c => hp c.1), if_neg hp]
theorem uat_end {n : Nat} {T : List (List Nat)} (h : GoodT n T) : uat T 240 = T.length := by
  have := h.four
  unfold uat
  omega
theorem lvp_no {n : Nat} {T : List (List Nat)} (h : GoodT n T) {q : Nat} (h0 : hm T q = 0) : lvp T (q + 1) = lvp T q := by
  funext p
  unfold lvp
  by_cases hp : p.2 ∈ T.getD p.1 []
  · have hne : 60 * p.1 + (T.getD p.1 []).idxOf p.2 ≠ q := fun e => by
      have := hm_dat h hp
      rw [e, h0] at this
      have := (h.home _ _ hp).1
      omega
    by_cases hl : 60 * p.1 + (T.getD p.1 []).idxOf p.2 < q
    · rw [if_pos ⟨hp, by omega⟩, if_pos ⟨hp, hl⟩]
    · rw [if_neg (fun c => by have := c.2; omega), if_neg (fun c => hl c.2)]
  · rw [if_neg (fun c => hp c.1), if_neg (fun c => hp c.1)]
theorem uat_no {n : Nat} {T : List (List Nat)} (h : GoodT n T) {q : Nat} (h0 : hm T q = 0) : uat T (q + 1) = uat T q := by
  unfold uat
  by_cases hq : q % 60 = 0
  · have hs : ¬ q / 60 < T.length := fun c => by
      have hne := h.some _ c
      have hmem : (T.getD (q / 60) []).getD 0 0 ∈ T.getD (q / 60) [] := by
        cases hl : T.getD (q / 60) [] with
        | nil => exact absurd hl hne
        | cons a r => simp
      unfold hm at h0
      rw [hq] at h0
      rw [h0] at hmem
      have := (h.home _ _ hmem).1
      omega
    omega
  · omega
theorem dat_hm {n : Nat} {T : List (List Nat)} (h : GoodT n T) {q : Nat} (h0 : hm T q ≠ 0) : dat T (q / 60) (hm T q) = q + 1 := by
  unfold dat
  rw [idx_hm h h0]
  omega
theorem lvp_yes {n : Nat} {T : List (List Nat)} (h : GoodT n T) {q : Nat} (h0 : hm T q ≠ 0) : put (lvp T q) (q / 60, hm T q) (.int .i64 ((q + 1 : Nat) : Int)) = lvp T (q + 1) := by
  funext p
  unfold put
  by_cases e : p = (q / 60, hm T q)
  · rw [if_pos e, e]
    unfold lvp
    simp only
    rw [if_pos ⟨hm_mem h0, by rw [idx_hm h h0]; omega⟩, dat_hm h h0]
  · rw [if_neg e]
    unfold lvp
    by_cases hp : p.2 ∈ T.getD p.1 []
    · have hne : 60 * p.1 + (T.getD p.1 []).idxOf p.2 ≠ q := fun c => by
        have h1 := hm_dat h hp
        have h2 : (T.getD p.1 []).idxOf p.2 < (T.getD p.1 []).length := List.idxOf_lt_length_iff.2 hp
        have h3 := h.few p.1
        rw [c] at h1
        apply e
        rw [h1]
        apply Prod.ext
        · show p.1 = q / 60; omega
        · rfl
      by_cases hl : 60 * p.1 + (T.getD p.1 []).idxOf p.2 < q
      · rw [if_pos ⟨hp, hl⟩, if_pos ⟨hp, by omega⟩]
      · rw [if_neg (fun c => hl c.2), if_neg (fun c => by have := c.2; omega)]
    · rw [if_neg (fun c => hp c.1), if_neg (fun c => hp c.1)]
theorem uat_yes {n : Nat} {T : List (List Nat)} (h : GoodT n T) {q : Nat} (h0 : hm T q ≠ 0) : uat T (q + 1) = q / 60 + 1 := by
  have := slot_lt (hm_mem h0)
  unfold uat
  omega
theorem jhas_c {w : World} {j dp : Nat} {F : List Nat} {d : Dv} (c0 : w.cell? ⟨j, 0, none⟩ = some (.pointer (some ⟨dp, 0, none⟩))) (hd : Dev w dp F d) (k : Nat) :
    Calls Tryd.prog 55 #[.pointer (some ⟨j, 0, none⟩), .int .i64 (k : Int)] w fun e w' => e = .returned (.bool (decide (245 ≤ k ∧ k < d.n))) ∧ w' = w := by
  by_cases hk : 245 ≤ k
  · by_cases hk2 : k < d.n
    all_goals
      go_enter Tryd.func55, Tryd.ntmps55
      go_wp2_with (go_at_call 35; refine (blocksD hd).mono ?_; rintro e w1 ⟨rfl, hw⟩; subst w1)
      go_ret
      exact ⟨retB (by simp [hk, hk2]), rfl⟩
  · go_enter Tryd.func55, Tryd.ntmps55
    go_wp2
    go_ret
    exact ⟨retB (by simp [hk]), rfl⟩
structure LoadAt (w0 w : World) (j lb dp q : Nat) (T : List (List Nat)) : Prop where
  cells : w.heap[j]? = some (.cells #[.pointer (some ⟨dp, 0, none⟩), .map (some lb), .int .i64 ((uat T q : Nat) : Int), .bool false] 79 (0, 0))
  live : ∃ m, MapIs w lb mkP (lvp T q) m
  keep : Keeps [j, lb] w0 w
theorem LoadAt.ne {w0 w : World} {j lb dp q : Nat} {T : List (List Nat)} (h : LoadAt w0 w j lb dp q T) : j ≠ lb := by
  obtain ⟨m, es, c, hb, _⟩ := h.live
  intro e
  have := h.cells
  rw [e, hb] at this
  cases this
set_option maxRecDepth 100000 in
set_option maxHeartbeats 1000000 in
theorem load_any {w : World} {j lb dp g cap : Nat} {F : List Nat} {d : Dv} {T : List (List Nat)} (hL : LoadAt w w j lb dp 0 T) (hd : Dev w dp F d) (hjF : j ∉ F) (hlF : lb ∉ F) (hT : GoodT d.n T) (hr : Full w g 83 (tabL T)) (hg : g ≠ j ∧ g ≠ lb) (hcap : 512 ≤ cap) (ht : Tab w) (h0 : j ≠ 0 ∧ lb ≠ 0) :
    Calls Tryd.prog 40 #[.pointer (some ⟨j, 0, none⟩), .slice (some ⟨g, 0, none⟩) 512 cap] w fun e w' => (∃ v, e = .returned v) ∧ LoadAt w w' j lb dp 240 T := by
  have hrow : ∀ w', Keeps [j, lb] w w' → Row w' (some ⟨g, 0, none⟩) (tabL T) := fun w' k => (hr.keeps k (by simp [hg])).row (tabL_lt T)
  have hn2 := hd.ok.n2
  have hsl : P.sum ((tabL T).take 508) < 4294967296 := sum_lt _ (fun x hx => by
    obtain ⟨i, hi, rfl⟩ := List.getElem_of_mem (List.mem_of_mem_take hx)
    have := tabL_lt T i
    simpa [List.getD, hi] using this)
  have hsb : P.sum ((bodyL (hm T)).take 508) < 4294967296 := by rw [← tabN_take]; exact hsl
  have hlen : ((tabL T).take 508).length = 508 := by rw [List.length_take, tabL_len]; rfl
  have hrt : Row w (some ⟨g, 0, none⟩) ((tabL T).take 508) := by
    have := hrow w (Keeps.refl _ _)
    rw [← List.take_append_drop 508 (tabL T)] at this
    exact row_front this
  have hS := fun cp => sum_any (some ⟨g, 0, none⟩) cp ((tabL T).take 508) w ht hrt (by rw [hlen]; decide)
  rw [hlen] at hS
  have hG := get_yes (some ⟨g, 0, none⟩) cap (tabL T) 508 4 false w (hrow w (Keeps.refl _ _)) (by rw [tabL_len]; decide) (by omega) (by omega) (by rw [tabL_len]; omega)
  rw [tabL_len, show getV (tabL T) 508 4 false = P.sum ((tabL T).take 508) from tabN_sum _ hsb] at hG
  have hN : ∀ w' q, Keeps [j, lb] w w' → q < 240 → Calls Tryd.prog 61 #[.slice (some ⟨g, 0, none⟩) 512 cap, .int .i64 ((8 + 2 * q : Nat) : Int), .int .i64 2, .bool false] w' fun e w'' => e = .returned (.tuple #[.int .u64 ((hm T q : Nat) : Int), .bool true]) ∧ w'' = w' := fun w' q k hq => by
    have := get_yes (some ⟨g, 0, none⟩) cap (tabL T) (8 + 2 * q) 2 false w' (hrow w' k) (by rw [tabL_len]; decide) (by omega) (by omega) (by rw [tabL_len]; omega)
    rw [tabL_len, show getV (tabL T) (8 + 2 * q) 2 false = hm T q from tabN_num _ q hq (hm_lt hT hn2 q)] at this
    exact this
  have hwk : IntKind.u64.wrap ((P.sum ((tabL T).take 508) : Nat) : Int) = ((P.sum ((tabL T).take 508) : Nat) : Int) := wu64 _ (by omega) (by omega)
  have HS : Hid _ := hS
  have HG : Hid (Calls Tryd.prog 61 #[.slice (some ⟨g, 0, none⟩) 512 cap, .int .i64 508, .int .i64 4, .bool false] w fun e w' => e = .returned (.tuple #[.int .u64 ((P.sum ((tabL T).take 508) : Nat) : Int), .bool true]) ∧ w' = w) := hG
  have HN : Hid _ := hN
  have hcI : (512 : Int) ≤ (cap : Int) := by omega
  clear hS hG hN hrt hlen hrow
  generalize P.sum ((tabL T).take 508) = S at *
  go_enter Tryd.func40, Tryd.ntmps40
  go_wp2_with (first
    | (go_at_call 62; refine (HS.out _).mono ?_; rintro e w1 ⟨rfl, hw⟩; subst w1)
    | (go_at_call 61; refine Calls.mono HG.out ?_; rintro e w1 ⟨rfl, hw⟩; subst w1))
  go_loopw [23] (fun i wr => ∃ s : Nat, s ≤ 4 ∧ i = .int .i64 (s : Int) ∧ LoadAt w wr j lb dp (60 * s) T) (fun i _ => 4 - (intOf i).toNat)
  case atStart => exact ⟨0, by omega, rfl, hL⟩
  case round =>
    clear HG HS
    obtain ⟨s, hs, rfl, hL1⟩ := hrel
    by_cases hlt : s < 4
    · have hltI : (s : Int) < 4 := by omega
      go_wp2
      go_loopw [26] (fun i wr => ∃ k : Nat, k ≤ 60 ∧ i = .int .i64 (k : Int) ∧ LoadAt w wr j lb dp (60 * s + k) T) (fun i _ => 60 - (intOf i).toNat)
      case atStart => exact ⟨0, by omega, rfl, hL1⟩
      case round =>
        obtain ⟨k, hk, rfl, hL2⟩ := hrel
        by_cases hlk : k < 60
        · have hlkI : (k : Int) < 60 := by omega
          obtain ⟨q, hq⟩ : ∃ q, 60 * s + k = q := ⟨_, rfl⟩
          have hq240 : q < 240 := by omega
          have hq60 : q / 60 = s := by omega
          have HQ : Hid (60 * s + (k + 1) = q + 1) := by show _ = _; omega
          rw [hq] at hL2
          have hDB : ∀ w', Calls Tryd.prog 63 #[.int .i64 (s : Int), .int .i64 (k : Int)] w' fun e w'' => e = .returned (.int .i64 ((q + 1 : Nat) : Int)) ∧ w'' = w' := fun w' => by
            have := dataBlock_any s k w' (by omega) (by omega)
            rw [show 1 + 60 * s + k = q + 1 by omega] at this
            exact this
          have hNA : ∀ w', Calls Tryd.prog 64 #[.int .i64 ((q + 1 : Nat) : Int)] w' fun e w'' => e = .returned (.int .i64 ((8 + 2 * q : Nat) : Int)) ∧ w'' = w' := fun w' => numberAt_any q w' (by omega)
          have hGN := HN.out wr q hL2.keep hq240
          have hd2 : Dev wr dp F d := hd.keeps hL2.keep (fun x hx c => by simp at c; rcases c with rfl | rfl; exact hjF hx; exact hlF hx)
          have c0 : wr.cell? ⟨j, 0, none⟩ = some (.pointer (some ⟨dp, 0, none⟩)) := by rw [cell_of_row _ _ _ _ _ _ hL2.cells]; rfl
          have c1 : wr.cell? ⟨j, 1, none⟩ = some (.map (some lb)) := by rw [cell_of_row _ _ _ _ _ _ hL2.cells]; rfl
          have hH := jhas_c c0 hd2 (hm T q)
          have hHl := hm_lt hT hn2 q
          have hwh : IntKind.i64.wrap ((hm T q : Nat) : Int) = ((hm T q : Nat) : Int) := by rw [IntKind.wrap_i64]; omega
          have HDB : Hid _ := hDB
          have HNA : Hid _ := hNA
          have HGN : Hid (Calls Tryd.prog 61 #[.slice (some ⟨g, 0, none⟩) 512 cap, .int .i64 ((8 + 2 * q : Nat) : Int), .int .i64 2, .bool false] wr fun e w'' => e = .returned (.tuple #[.int .u64 ((hm T q : Nat) : Int), .bool true]) ∧ w'' = wr) := hGN
          clear hDB hNA hGN hd HN
          by_cases h0 : hm T q = 0
          · have hdec : decide (245 ≤ hm T q ∧ hm T q < d.n) = false := by rw [h0]; simp
            rw [hdec, h0] at hH
            have HH : Hid (Calls Tryd.prog 55 #[.pointer (some ⟨j, 0, none⟩), .int .i64 0] wr fun e w' => e = .returned (.bool false) ∧ w' = wr) := hH
            have HN1 : Hid (LoadAt w wr j lb dp (q + 1) T) := ⟨by rw [uat_no hT h0]; exact hL2.cells, by rw [lvp_no hT h0]; exact hL2.live, hL2.keep⟩
            have hGN2 := HGN.out
            rw [h0] at hGN2
            have HGN2 : Hid (Calls Tryd.prog 61 #[.slice (some ⟨g, 0, none⟩) 512 cap, .int .i64 ((8 + 2 * q : Nat) : Int), .int .i64 2, .bool false] wr fun e w'' => e = .returned (.tuple #[.int .u64 0, .bool true]) ∧ w'' = wr) := hGN2
            clear hH hdec hL2 hGN2 HGN h0 hwh hHl
            generalize 8 + 2 * q = N8 at *
            generalize hD : q + 1 = D at *
            go_wp2_with (first
              | (go_at_call 63; refine (HDB.out _).mono ?_; rintro e w1 ⟨rfl, hw⟩; subst w1)
              | (go_at_call 64; refine (HNA.out _).mono ?_; rintro e w1 ⟨rfl, hw⟩; subst w1)
              | (go_at_call 61; refine Calls.mono HGN2.out ?_; rintro e w1 ⟨rfl, hw⟩; subst w1)
              | (go_at_call 55; refine Calls.mono HH.out ?_; rintro e w1 ⟨rfl, hw⟩; subst w1))
            exact ⟨⟨k + 1, by omega, by go_num, by rw [HQ.out]; exact HN1.out⟩, by simp [intOf]; omega⟩
          · have hhome := hT.home _ _ (hm_mem h0)
            have hdec : decide (245 ≤ hm T q ∧ hm T q < d.n) = true := decide_eq_true hhome
            rw [hdec] at hH
            have HH : Hid (Calls Tryd.prog 55 #[.pointer (some ⟨j, 0, none⟩), .int .i64 ((hm T q : Nat) : Int)] wr fun e w' => e = .returned (.bool true) ∧ w' = wr) := hH
            have hne := hL2.ne
            obtain ⟨m, hM⟩ := hL2.live
            obtain ⟨es, cl, hst, hE, hsz⟩ := hM.store kbL Tryd.underlying77 (s, hm T q) (.int .i64 ((q + 1 : Nat) : Int))
            have hst2 := hst wr rfl
            have hjW : (setBlock wr lb (.map es cl)).heap[j]? = some (.cells #[.pointer (some ⟨dp, 0, none⟩), .map (some lb), .int .i64 ((uat T q : Nat) : Int), .bool false] 79 (0, 0)) := (setBlock_other _ _ _ _ hne).trans hL2.cells
            have q2 : (setBlock wr lb (.map es cl)).cell? ⟨j, 2, none⟩ = some (.int .i64 ((uat T q : Nat) : Int)) := by rw [cell_of_row _ _ _ _ _ _ hjW]; rfl
            have qf : (setBlock wr lb (.map es cl)).frozen? ⟨j, 2, none⟩ = false := frozen_of_row _ j 2 _ 79 hjW
            have HN1 : Hid (LoadAt w ((setBlock wr lb (.map es cl)).setCell ⟨j, 2, none⟩ (.int .i64 ((s : Int) + 1))) j lb dp (q + 1) T) := by
              refine ⟨?_, ⟨m + 1, es, cl, ?_, ?_, hsz⟩, (hL2.keep.setBlock lb _ (by simp)).setCell _ _ (by simp)⟩
              · rw [heap_setCell_same _ _ _ _ _ _ hjW, uat_yes hT h0, hq60]
                simp
              · exact (heap_setCell_other _ _ _ _ (Ne.symm hne)).trans (setBlock_same _ _ _ hM.lt)
              · rw [← lvp_yes hT h0, hq60]; exact hE
            simp only [mkP] at hst2
            clear h0 hH hdec hL2 hM hst hE hsz hjW hL1 hhome
            generalize hm T q = H at *
            generalize 8 + 2 * q = N8 at *
            generalize hD : q + 1 = D at *
            go_wp2_with (first
              | (go_at_call 63; refine (HDB.out _).mono ?_; rintro e w1 ⟨rfl, hw⟩; subst w1)
              | (go_at_call 64; refine (HNA.out _).mono ?_; rintro e w1 ⟨rfl, hw⟩; subst w1)
              | (go_at_call 61; refine Calls.mono HGN.out ?_; rintro e w1 ⟨rfl, hw⟩; subst w1)
              | (go_at_call 55; refine Calls.mono HH.out ?_; rintro e w1 ⟨rfl, hw⟩; subst w1))
            trace_state
            exact ⟨⟨k + 1, by omega, by go_num, by rw [HQ.out]; exact HN1.out⟩, by simp [intOf]; omega⟩
        · obtain rfl : k = 60 := by omega
          go_wp2
          exact ⟨⟨s + 1, by omega, by go_num, by rw [show 60 * (s + 1) = 60 * s + 60 by omega]; exact hL2⟩, by simp [intOf]; omega⟩
    · obtain rfl : s = 4 := by omega
      go_wp2
      go_end0
      exact ⟨⟨_, rfl⟩, hL1⟩
end Go.Proofs.YtohncckmennfbaaDoor
