/- table: block 0's bytes, of whatever is committed. -/
import Derived.Test.YtoigbfdhjkcfcaaDoorJf
import Derived.Test.YtoigbfdhjkcfcaaDoorBt
import Derived.Test.YtoigbfdhjkcfcaaDoorCs
import Derived.Lib.AppendZeros
import Derived.Lib.SlBytesConst
import Derived.LoopN
import Derived.Laws.IdiomRangeMap
namespace Go.Proofs.YtoigbfdhjkcfcaaDoor
set_option linter.unusedSimpArgs false
set_option linter.unusedVariables false
open Go.RowKit Go.MapKept
theorem own_full {B : Nat} {w : World} {g : Nat} {l : List Nat} (h : Own B w g l.length l) : Full w g 5 l := by
  rcases h.2 with ⟨e, _⟩ | ⟨g', cap', cur, e, _, hg, hle, hm, hcs, ht⟩
  · cases e
  · injection e with e1 e2 e3
    injection e1 with e1
    injection e1 with e1
    subst e1; subst e3
    unfold Full
    rw [hg]
    have : cur.toList = cv l := by
      rw [List.take_of_length_le (by simp [hcs])] at ht
      exact ht
    rw [← this]
/-- Which numbers stand in the table while these places are still to come. -/
def numAt (T : List (List Nat)) (left : Nat × Nat → Prop) (d : ∀ a, Decidable (left a)) (q : Nat) : Nat :=
  @ite Nat (left (q / 60, hm T q)) (d (q / 60, hm T q)) 0 (hm T q)
theorem numAt_start (T : List (List Nat)) (q : Nat) : numAt T (fun a => ∃ v, lv T a = some v) (fun _ => Classical.propDecidable _) q = 0 := by
  unfold numAt
  split
  · rfl
  · rename_i h
    by_cases h0 : hm T q = 0
    · exact h0
    · exact absurd ⟨_, by simp only [lv]; rw [if_pos (hm_mem h0)]⟩ h
theorem numAt_end (T : List (List Nat)) (left : Nat × Nat → Prop) (h : ∀ a, ¬ left a) : numAt T left (fun _ => Classical.propDecidable _) = hm T := by
  funext q
  unfold numAt
  rw [if_neg (h _)]
theorem numAt_step {n : Nat} {T : List (List Nat)} (hT : GoodT n T) {left : Nat × Nat → Prop} {s k : Nat} (hk : k ∈ T.getD s []) (hl : left (s, k)) :
    numAt T (fun x => left x ∧ x ≠ (s, k)) (fun _ => Classical.propDecidable _) = fun x => if x = 60 * s + (T.getD s []).idxOf k then k else numAt T left (fun _ => Classical.propDecidable _) x := by
  funext x
  have h1 : (T.getD s []).idxOf k < (T.getD s []).length := List.idxOf_lt_length_iff.2 hk
  have h2 := hT.few s
  have h245 := (hT.home s k hk).1
  by_cases e : x = 60 * s + (T.getD s []).idxOf k
  · rw [if_pos e, e]
    unfold numAt
    rw [hm_dat hT hk, show (60 * s + (T.getD s []).idxOf k) / 60 = s by omega]
    simp
  · rw [if_neg e]
    unfold numAt
    by_cases h0 : hm T x = 0
    · rw [h0]; simp
    · have hne : (x / 60, hm T x) ≠ (s, k) := by
        intro c
        injection c with c1 c2
        have := idx_hm hT h0
        rw [c1, c2] at this
        omega
      by_cases hl2 : left (x / 60, hm T x)
      · rw [if_pos ⟨hl2, hne⟩, if_pos hl2]
      · rw [if_neg (fun c => hl2 c.1), if_neg hl2]
theorem lv_some {T : List (List Nat)} {a : Nat × Nat} {v : Value} (h : lv T a = some v) : a.2 ∈ T.getD a.1 [] ∧ v = .int .i64 ((dat T a.1 a.2 : Nat) : Int) := by
  unfold lv at h
  split at h
  · rename_i q; exact ⟨q, by simpa using h.symm⟩
  · cases h
theorem zeroCells_u8 (n : Nat) : Builtin.zeroCells (Value.int .u8 0).cells n = (cv (List.replicate n 0)).toArray := by
  unfold Builtin.zeroCells
  apply Array.ext
  · simp [Value.cells, cv]
  · intro i h1 h2
    simp [Value.cells, cv, Nat.mod_one]
theorem app_zeros (W : World) (b : Nat) (olds : List Nat) (ho : olds.length = 8) (hb : ∀ i, olds.getD i 0 < 256) (hc : ∀ j u, (cv olds)[j]? = some u → W.cell? ((⟨b, 0, none⟩ : Addr).add j) = some u) :
    ∃ cap g W', (Builtin.append_ #[37, 3] 37 #[.slice (some ⟨b, 0, none⟩) 8 8, .int .i64 504]).run Tryd.prog W = .ok (.slice (some ⟨g, 0, none⟩) 512 cap) W' ∧ 512 ≤ cap ∧ cap ≤ maxLen ∧
      Row W' (some ⟨g, 0, none⟩) (olds ++ List.replicate 504 0) ∧ W.heap.size ≤ g ∧ g < W'.heap.size ∧ Below W.heap.size W W' := by
  obtain ⟨i0, hi, hz0, hz1, hz2⟩ := info_parts Tryd.info5
  have hfo := run_firstCells_some (P := Tryd.prog) W.drew 1 8 ⟨b, 0, none⟩ 8 8 (cv olds) (by rw [cv_length, ho]) (by simpa using hc)
  have hw : IntKind.i64.wrap 504 = 504 := by decide
  have h48 : ¬ (281474976710656 < Builtin.nextslicecap 512 8) := by decide
  obtain ⟨o, HO⟩ : ∃ o : Obj, o = .cells ((cv olds).toArray ++ Builtin.zeroCells (Value.int .u8 0).cells 504 ++ Builtin.zeroCells (Value.int .u8 0).cells (grownCap W 512 8 5 - 512)) 5 := ⟨_, rfl⟩
  refine ⟨grownCap W 512 8 5, W.heap.size, W.drew.alloc o, ?_, grownCap_ge _ _ _ _, grownCap_le_maxLen _ _ _ _ (by decide), ?_, Nat.le_refl _, by simp, ?_⟩
  · simp [Builtin.append_, run_underlying Tryd.underlying37, run_underlying Tryd.underlying3, sizeOf, typeInfo, zeroValue, hi, hz0, hz1, hz2, asInt, asIntOf, hw, h48, hfo, Question.forced, newRow]
    rw [HO]
    simp [grownCap]
    exact fun c => absurd c (by decide)
  · have e1 : (W.drew.alloc o).heap[W.heap.size]? = some (.cells (cv (olds ++ List.replicate 504 0) ++ cv (List.replicate (grownCap W 512 8 5 - 512) 0)).toArray 5 (0, 0)) := by
      rw [HO, zeroCells_u8, zeroCells_u8]
      rw [show (W.drew.alloc (.cells ((cv olds).toArray ++ (cv (List.replicate 504 0)).toArray ++ (cv (List.replicate (grownCap W 512 8 5 - 512) 0)).toArray) 5)).heap[W.heap.size]? = some (.cells ((cv olds).toArray ++ (cv (List.replicate 504 0)).toArray ++ (cv (List.replicate (grownCap W 512 8 5 - 512) 0)).toArray) 5) from heap_alloc_new W.drew _]
      rw [cv_append, List.append_toArray, List.append_toArray]
    intro i hi
    refine ⟨W.heap.size, 0, rfl, ?_, ?_⟩
    · rw [cell_of_row _ W.heap.size (0 + i) _ 5 (0, 0) e1]
      have := cv_get (olds ++ List.replicate 504 0) i hi
      rw [Nat.zero_add, List.getElem?_toArray, List.getElem?_append_left (by rw [cv_length]; exact hi)]
      exact this
    · rw [getD_app2]
      split
      · exact hb i
      · rw [getD_rep]; omega
  · exact ((Below.refl _ _).drew).alloc (Nat.le_refl _) _
/-- Put of a home's number. -/
theorem putN_any (g cap : Nat) (num : Nat → Nat) (q h : Nat) (w : World) (hr : Row w (some ⟨g, 0, none⟩) (bodyL num)) (hq : q < 240) (hh : h < 65536) :
    Calls Tryd.prog 86 #[.slice (some ⟨g, 0, none⟩) 512 cap, .int .i64 ((8 + 2 * q : Nat) : Int), .int .i64 2, .bool false, .int .u64 (h : Int)] w fun e w' =>
      ∃ g', e = .returned (.tuple #[.slice (some ⟨g', 0, none⟩) 512 512, .bool true]) ∧ Full w' g' 5 (bodyL (fun x => if x = q then h else num x)) ∧ w.heap.size ≤ g' ∧ Below w.heap.size w w' := by
  have := put_yes (some ⟨g, 0, none⟩) cap (bodyL num) (8 + 2 * q) 2 false h w hr (by rw [bodyL_len]; omega) (by omega) (by omega) (by rw [bodyL_len]; omega) (by omega)
  rw [bodyL_len] at this
  refine this.mono ?_
  rintro e w' ⟨⟨g', rfl, hown⟩, hb⟩
  rw [body_put num q h hq hh] at hown
  have h5 : Own w.heap.size w' g' (bodyL (fun x => if x = q then h else num x)).length (bodyL (fun x => if x = q then h else num x)) := by rw [bodyL_len]; exact hown
  exact ⟨g', rfl, own_full h5, h5.ge.1, hb⟩
/-- Put of the sum. -/
theorem putS_any (g cap : Nat) (num : Nat → Nat) (w : World) (hr : Row w (some ⟨g, 0, none⟩) (bodyL num)) :
    Calls Tryd.prog 86 #[.slice (some ⟨g, 0, none⟩) 512 cap, .int .i64 508, .int .i64 4, .bool false, .int .u64 ((P.sum ((bodyL num).take 508) : Nat) : Int)] w fun e w' =>
      ∃ g', e = .returned (.tuple #[.slice (some ⟨g', 0, none⟩) 512 512, .bool true]) ∧ Full w' g' 5 (tabN num) ∧ w.heap.size ≤ g' ∧ Below w.heap.size w w' := by
  have hs : P.sum ((bodyL num).take 508) < 4294967296 := sum_lt _ (fun x hx => by
    obtain ⟨i, hi, rfl⟩ := List.getElem_of_mem (List.mem_of_mem_take hx)
    have := bodyL_lt num i
    simpa [List.getD, hi] using this)
  have := put_yes (some ⟨g, 0, none⟩) cap (bodyL num) 508 4 false (P.sum ((bodyL num).take 508)) w hr (by rw [bodyL_len]; omega) (by omega) (by omega) (by rw [bodyL_len]; omega) (by omega)
  rw [bodyL_len] at this
  refine this.mono ?_
  rintro e w' ⟨⟨g', rfl, hown⟩, hb⟩
  have h5 : Own w.heap.size w' g' (tabN num).length (tabN num) := by rw [tabN_len]; exact hown
  exact ⟨g', rfl, own_full h5, h5.ge.1, hb⟩
set_option maxRecDepth 100000 in
theorem table_any (lb m n : Nat) (T : List (List Nat)) (w : World) (hM : MapIs w lb mkP (lv T) m) (hT : GoodT n T) (hn : n ≤ 65536) (ht : Tab w) :
    Calls Tryd.prog 71 #[.map (some lb)] w fun e w' => ∃ g, e = .returned (.slice (some ⟨g, 0, none⟩) 512 512) ∧ Full w' g 5 (tabL T) ∧ w.heap.size ≤ g ∧ Below w.heap.size w w' := by
  have kc := fun (w : World) (C : Array Value) (n c : Nat) => Lib.run_convert_bytes_const (P := Tryd.prog) w 37 5 C n c Tryd.underlying37 Tryd.underlying5
  have hb1 : Below w.heap.size w (w.alloc (.cells (cv mag).toArray 5 (8, 9))) := (Below.refl _ _).alloc (Nat.le_refl _) _
  obtain ⟨cap, g, W2, hap, hcap, hcm, hrow, hg1, hg2, hb2⟩ := app_zeros (w.alloc (.cells (cv mag).toArray 5 (8, 9))) w.heap.size mag rfl mag_lt (by
    intro j u hj
    rw [Addr.add_lit, Nat.zero_add, cell_of_row _ w.heap.size j (cv mag).toArray 5 (8, 9) (heap_alloc_new w _)]
    simpa using hj)
  have hb12 := hb1.trans (hb2.mono hb1.size)
  obtain ⟨W3, hrange, hR, hB3, hS3⟩ := (hM.below hb12).range kbL Tryd.underlying78
  have hbW3 := hb12.trans (hB3.mono hb12.size)
  rw [← body_zero] at hrow
  have hrow3 := hrow.below hB3
  clear hrow hb1 hb2
  go_enter Tryd.func71, Tryd.ntmps71
  go_wp2_with (at_builtin; refine Lib.wpList_append_run _ rfl _ _ _ _ rfl _ _ rfl rfl _ _ hap ?_)
  go_loopw [3] (fun b wr => ∃ left cnt g cap, b = .slice (some ⟨g, 0, none⟩) 512 cap ∧ 512 ≤ cap ∧ cap ≤ maxLen ∧ Row wr (some ⟨g, 0, none⟩) (bodyL (numAt T left (fun _ => Classical.propDecidable _))) ∧ Rng wr lb W2.heap.size mkP (lv T) m left cnt ∧ Below w.heap.size w wr ∧ W3.heap.size ≤ wr.heap.size ∧ g ≠ W2.heap.size) (fun _ wr => wr.rangeLeft lb W2.heap.size)
  case atStart =>
    refine ⟨_, _, g, cap, rfl, hcap, hcm, ?_, hR, hbW3, Nat.le_refl _, by omega⟩
    rw [show numAt T (fun a => ∃ v, lv T a = some v) (fun _ => Classical.propDecidable _) = fun _ => 0 from funext (numAt_start T)]
    exact hrow3
  case round =>
    have HS3 : Hid (W3.heap.size = W2.heap.size + 1) := hS3
    clear hR hrange hB3 hS3 hrow3 hap hcap hcm
    obtain ⟨left, cnt, g, cap, rfl, hcap, hcm, hrow, hR, hbw, hsz, hne⟩ := hrel
    rcases hR.next' kbL with ⟨_, hnone, hnx⟩ | ⟨a, v, W4, cnt', hleft, hv, hnx, hR4, hlt, ho4, hg4, hs4, hen⟩
    · rw [numAt_end T left hnone] at hrow
      have hsl : P.sum ((bodyL (hm T)).take 508) < 4294967296 := sum_lt _ (fun x hx => by
        obtain ⟨i, hi, rfl⟩ := List.getElem_of_mem (List.mem_of_mem_take hx)
        have := bodyL_lt (hm T) i
        simpa [List.getD, hi] using this)
      have hlen : ((bodyL (hm T)).take 508).length = 508 := by rw [List.length_take, bodyL_len]; rfl
      have hrt : Row wr (some ⟨g, 0, none⟩) ((bodyL (hm T)).take 508) := by
        have := hrow
        rw [← List.take_append_drop 508 (bodyL (hm T))] at this
        exact row_front this
      have hS := fun cp => sum_any (some ⟨g, 0, none⟩) cp ((bodyL (hm T)).take 508) wr (ht.below hbw) hrt (by rw [hlen]; decide)
      rw [hlen] at hS
      have hP := putS_any g cap (hm T) wr hrow
      have HT : Hid (tabN (hm T) = tabL T) := rfl
      rw [HT.out] at hP
      have hwk : IntKind.u64.wrap ((P.sum ((bodyL (hm T)).take 508) : Nat) : Int) = ((P.sum ((bodyL (hm T)).take 508) : Nat) : Int) := wu64 _ (by omega) (by omega)
      have HS : Hid _ := hS
      have HP : Hid (Calls Tryd.prog 86 #[.slice (some ⟨g, 0, none⟩) 512 cap, .int .i64 508, .int .i64 4, .bool false, .int .u64 ((P.sum ((bodyL (hm T)).take 508) : Nat) : Int)] wr fun e w' =>
        ∃ g', e = .returned (.tuple #[.slice (some ⟨g', 0, none⟩) 512 512, .bool true]) ∧ Full w' g' 5 (tabL T) ∧ wr.heap.size ≤ g' ∧ Below wr.heap.size wr w') := hP
      have hcI : (512 : Int) ≤ (cap : Int) := by omega
      have HSZ : Hid (w.heap.size ≤ wr.heap.size) := hbw.size
      clear hP hS hrt hlen hrow hR
      generalize P.sum ((bodyL (hm T)).take 508) = S at *
      go_wp2_with (first
        | (go_at_call 62; refine (HS.out _).mono ?_; rintro e w1 ⟨rfl, hw⟩; subst w1)
        | (go_at_call 86; refine Calls.mono HP.out ?_; rintro e w5 ⟨g', rfl, hful, hge, hb5⟩))
      go_ret
      exact ⟨g', rfl, hful, Nat.le_trans HSZ.out hge, hbw.trans (hb5.mono HSZ.out)⟩
    · obtain ⟨hin, rfl⟩ := lv_some hv
      obtain ⟨s, k⟩ := a
      have hix : (T.getD s []).idxOf k < (T.getD s []).length := List.idxOf_lt_length_iff.2 hin
      have hfew := hT.few s
      have hs4' := slot_lt hin
      have h4 := hT.four
      have hkl : k < 65536 := by have := (hT.home s k hin).2; omega
      have HNS : Hid (numAt T (fun x => left x ∧ x ≠ (s, k)) (fun _ => Classical.propDecidable _) = fun x => if x = 60 * s + (T.getD s []).idxOf k then k else numAt T left (fun _ => Classical.propDecidable _) x) := numAt_step hT hin hleft
      obtain ⟨q, HQ⟩ : ∃ q, Hid (60 * s + (T.getD s []).idxOf k = q) := ⟨_, rfl⟩
      rw [HQ.out] at HNS
      have hq : q < 240 := by rw [← HQ.out]; omega
      have HD : Hid (dat T s k = q + 1) := by show _ = _; rw [← HQ.out]; unfold dat; omega
      have hN : ∀ w', Calls Tryd.prog 64 #[.int .i64 ((dat T s k : Nat) : Int)] w' fun e w'' => e = .returned (.int .i64 ((8 + 2 * q : Nat) : Int)) ∧ w'' = w' := fun w' => by rw [HD.out]; exact numberAt_any q w' (by omega)
      have hrow4 : Row (W4.alloc (.cells #[.int .i64 (s : Int), .int .i64 (k : Int)] 106)) (some ⟨g, 0, none⟩) (bodyL (numAt T left (fun _ => Classical.propDecidable _))) := by
        have r4 : Row W4 (some ⟨g, 0, none⟩) (bodyL (numAt T left (fun _ => Classical.propDecidable _))) := by
          intro i hi
          obtain ⟨b, off, e, hc, hl⟩ := hrow i hi
          injection e with e
          injection e with e1 e2
          subst e1; subst e2
          exact ⟨g, 0, rfl, (cell_blk (ho4 g hne)).trans hc, hl⟩
        exact r4.below ((Below.refl _ _).alloc (Nat.le_refl _) _)
      have hP : ∀ w', w'.heap = (W4.alloc (.cells #[.int .i64 (s : Int), .int .i64 (k : Int)] 106)).heap → Calls Tryd.prog 86 #[.slice (some ⟨g, 0, none⟩) 512 cap, .int .i64 ((8 + 2 * q : Nat) : Int), .int .i64 2, .bool false, .int .u64 (k : Int)] w' fun e w'' =>
          ∃ g', e = .returned (.tuple #[.slice (some ⟨g', 0, none⟩) 512 512, .bool true]) ∧ Full w'' g' 5 (bodyL (numAt T (fun x => left x ∧ x ≠ (s, k)) (fun _ => Classical.propDecidable _))) ∧ w'.heap.size ≤ g' ∧ Below w'.heap.size w' w'' := fun w' e => by
        rw [HNS.out]
        refine putN_any g cap _ q k w' ?_ hq hkl
        intro i hi
        obtain ⟨b, off, e1, hc, hl⟩ := hrow4 i hi
        exact ⟨b, off, e1, (cell_blk (by rw [e])).trans hc, hl⟩
      have hwk : IntKind.u64.wrap (k : Int) = k := wu64 _ (by omega) (by omega)
      have HN : Hid _ := hN
      have HP : Hid _ := hP
      have HB4 : Hid (Below w.heap.size w (W4.alloc (.cells #[.int .i64 (s : Int), .int .i64 (k : Int)] 106)) ∧ W3.heap.size ≤ W4.heap.size ∧ Below W4.heap.size W4 (W4.alloc (.cells #[.int .i64 (s : Int), .int .i64 (k : Int)] 106))) := by
        have hsz2 := hbw.size
        refine ⟨(hbw.grown hg4 hsz2 (fun x hx => by cases hx; exact hb12.size)).alloc (by rw [hs4]; exact hsz2) _, by omega, (Below.refl _ _).alloc (Nat.le_refl _) _⟩
      clear hN hP hrow hrow4 HNS HQ HD hv hix hin hleft
      generalize dat T s k = D at *
      generalize 8 + 2 * q = N8 at *
      generalize hX : bodyL (numAt T (fun x => left x ∧ x ≠ (s, k)) (fun _ => Classical.propDecidable _)) = X at *
      go_wp2
      go_region_with (first
        | (go_at_call 64; refine (HN.out _).mono ?_; rintro e w1 ⟨rfl, hw⟩; subst w1)
        | (go_at_call 86; refine (HP.out _ (by rfl)).mono ?_; rintro e w5 ⟨g', rfl, hful, hge, hb5⟩))
      all_goals go_wp2
      all_goals
        refine ⟨⟨_, _, _, _, _, _, _, _, _, _, _, _, _, _, _, _, _, _, ?_, rfl⟩, ?_⟩
        · have hz := HB4.out.2.1
          have hz3 := HS3.out
          have hz4 : W4.heap.size ≤ g' := Nat.le_trans HB4.out.2.2.size hge
          have hb5' : Below (W4.alloc (.cells #[.int .i64 (s : Int), .int .i64 (k : Int)] 106)).heap.size (W4.alloc (.cells #[.int .i64 (s : Int), .int .i64 (k : Int)] 106)) w5 := ⟨hb5.os, hb5.tape, hb5.output, hb5.size, hb5.block⟩
          have hb6 := HB4.out.2.2.trans (hb5'.mono HB4.out.2.2.size)
          refine ⟨_, cnt', g', 512, rfl, by omega, by decide, ?_, hR4.blk (hb6.block _ hR4.map.lt) (hb6.block _ hR4.lt), HB4.out.1.trans (hb5'.mono (HB4.out.1.size)), Nat.le_trans hz hb6.size, by omega⟩
          rw [hX]
          exact hful.row (by rw [← hX]; exact bodyL_lt _)
        · have hb5' : Below (W4.alloc (.cells #[.int .i64 (s : Int), .int .i64 (k : Int)] 106)).heap.size (W4.alloc (.cells #[.int .i64 (s : Int), .int .i64 (k : Int)] 106)) w5 := ⟨hb5.os, hb5.tape, hb5.output, hb5.size, hb5.block⟩
          have hb6 := HB4.out.2.2.trans (hb5'.mono HB4.out.2.2.size)
          rw [(hR4.blk (hb6.block _ hR4.map.lt) (hb6.block _ hR4.lt)).left_eq, hR.left_eq]
          exact hlt
set_option maxRecDepth 100000 in
/-- Nothing committed: no map at all. -/
theorem table_nil (w : World) (ht : Tab w) :
    Calls Tryd.prog 71 #[.map none] w fun e w' => ∃ g, e = .returned (.slice (some ⟨g, 0, none⟩) 512 512) ∧ Full w' g 5 (tabL []) ∧ w.heap.size ≤ g ∧ Below w.heap.size w w' := by
  have kc := fun (w : World) (C : Array Value) (n c : Nat) => Lib.run_convert_bytes_const (P := Tryd.prog) w 37 5 C n c Tryd.underlying37 Tryd.underlying5
  have hb1 : Below w.heap.size w (w.alloc (.cells (cv mag).toArray 5 (8, 9))) := (Below.refl _ _).alloc (Nat.le_refl _) _
  obtain ⟨cap, g, W2, hap, hcap, hcm, hrow, hg1, hg2, hb2⟩ := app_zeros (w.alloc (.cells (cv mag).toArray 5 (8, 9))) w.heap.size mag rfl mag_lt (by
    intro j u hj
    rw [Addr.add_lit, Nat.zero_add, cell_of_row _ w.heap.size j (cv mag).toArray 5 (8, 9) (heap_alloc_new w _)]
    simpa using hj)
  have hb12 := hb1.trans (hb2.mono hb1.size)
  have hrg := run_range_nilMap (P := Tryd.prog) W2 78 106 3 Tryd.underlying78
  have hnx : ∀ ty, (Instr.next (.pointer (some ⟨W2.heap.size, 0, none⟩)) false ty).run Tryd.prog (W2.alloc (.mapIter none 0 #[] 0)) = _ := fun ty => run_next_nilMap W2 ty 0 0 #[]
  obtain ⟨wr, HW⟩ : ∃ wr, W2.alloc (.mapIter none 0 #[] 0) = wr := ⟨_, rfl⟩
  have hbr : Below W2.heap.size W2 wr := by rw [← HW]; exact (Below.refl _ _).alloc (Nat.le_refl _) _
  have HB3 : Hid (Below w.heap.size w wr) := hb12.trans (hbr.mono hb12.size)
  have HSZ : Hid (w.heap.size ≤ wr.heap.size) := HB3.out.size
  rw [HW] at hrg hnx
  have e0 : hm [] = fun _ => 0 := by funext q; simp [hm]
  have hrow2 : Row wr (some ⟨g, 0, none⟩) (bodyL (hm [])) := by rw [e0, body_zero]; exact hrow.below hbr
  have hsl : P.sum ((bodyL (hm [])).take 508) < 4294967296 := sum_lt _ (fun x hx => by
    obtain ⟨i, hi, rfl⟩ := List.getElem_of_mem (List.mem_of_mem_take hx)
    have := bodyL_lt (hm []) i
    simpa [List.getD, hi] using this)
  have hlen : ((bodyL (hm [])).take 508).length = 508 := by rw [List.length_take, bodyL_len]; rfl
  have hrt : Row wr (some ⟨g, 0, none⟩) ((bodyL (hm [])).take 508) := by
    have := hrow2
    rw [← List.take_append_drop 508 (bodyL (hm []))] at this
    exact row_front this
  have hS := fun cp => sum_any (some ⟨g, 0, none⟩) cp ((bodyL (hm [])).take 508) wr (ht.below HB3.out) hrt (by rw [hlen]; decide)
  rw [hlen] at hS
  have hP := putS_any g cap (hm []) wr hrow2
  have HT : Hid (tabN (hm []) = tabL []) := rfl
  rw [HT.out] at hP
  have hwk : IntKind.u64.wrap ((P.sum ((bodyL (hm [])).take 508) : Nat) : Int) = ((P.sum ((bodyL (hm [])).take 508) : Nat) : Int) := wu64 _ (by omega) (by omega)
  have HS : Hid _ := hS
  have HP : Hid (Calls Tryd.prog 86 #[.slice (some ⟨g, 0, none⟩) 512 cap, .int .i64 508, .int .i64 4, .bool false, .int .u64 ((P.sum ((bodyL (hm [])).take 508) : Nat) : Int)] wr fun e w' =>
    ∃ g', e = .returned (.tuple #[.slice (some ⟨g', 0, none⟩) 512 512, .bool true]) ∧ Full w' g' 5 (tabL []) ∧ wr.heap.size ≤ g' ∧ Below wr.heap.size wr w') := hP
  have hcI : (512 : Int) ≤ (cap : Int) := by omega
  clear hP hS hrt hlen hrow2 hrow e0 HW hbr hb12 hb2 hb1
  generalize P.sum ((bodyL (hm [])).take 508) = S at *
  go_enter Tryd.func71, Tryd.ntmps71
  go_wp2_with (at_builtin; refine Lib.wpList_append_run _ rfl _ _ _ _ rfl _ _ rfl rfl _ _ hap ?_)
  refine wp_loop_rounds 1 ?_
  rw [rounds_succ]
  go_wp2_with (first
    | (go_at_call 62; refine (HS.out _).mono ?_; rintro e w1 ⟨rfl, hw⟩; subst w1)
    | (go_at_call 86; refine Calls.mono HP.out ?_; rintro e w5 ⟨g', rfl, hful, hge, hb5⟩))
  go_ret
  exact ⟨g', rfl, hful, Nat.le_trans HSZ.out hge, HB3.out.trans (hb5.mono HSZ.out)⟩
end Go.Proofs.YtoigbfdhjkcfcaaDoor
