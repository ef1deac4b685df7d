/- Encode. -/
import Derived.Test.YtbiniohacnaieaaDoorPe
import Derived.Lib.SlBytesConst
import Derived.Lib.AppendZeros
import Derived.LoopN
namespace Go.Proofs.YtbiniohacnaieaaDoor
set_option linter.unusedSimpArgs false
set_option linter.unusedVariables false
open Go.RowKit
theorem numberAt_any (k : Nat) (w : World) (h : k ≤ 100) : Calls Tryd.prog 22 #[.int .i64 (k : Int)] w fun e w' => e = .returned (.int .i64 ((8 + 4 * k : Nat) : Int)) ∧ w' = w := by
  have hk : (k : Int) ≤ 100 := by omega
  go_enter Tryd.func22, Tryd.ntmps22
  go_wp2
  go_ret
  exact ⟨retI (by omega), rfl⟩
theorem fields_any (p : Pl) (w : World) : Calls Tryd.prog 25 #[p.v] w fun e w' => e = .returned p.v ∧ Below w.heap.size w w' := by
  obtain ⟨p1, p2, p3, p4, p5, p6, p7⟩ := p
  simp only [Pl.v]
  go_enter Tryd.func25, Tryd.ntmps25
  go_wp2
  refine bodyPost_ret (v := Pl.v ⟨p1, p2, p3, p4, p5, p6, p7⟩) ?_ rfl ⟨rfl, ?_⟩
  · simp only [Pl.v]
    simp only [results]
    go_simp
  · (repeat' (first | exact Below.refl _ _ | refine Below.drew ?_ | refine Below.alloc ?_ (by simp) _))
theorem zeroCells_u8 (n : Nat) : Builtin.zeroCells (Value.int .u8 0).cells n = (cv (List.replicate n 0)).toArray := by
  unfold Builtin.zeroCells
  apply Array.ext
  · simp [Value.cells, cv]
  · intro i h1 h2
    simp [Value.cells, cv, Nat.mod_one]
theorem app_zeros (W : World) (b : Nat) (olds : List Nat) (ho : olds.length = 8) (hb : ∀ i, olds.getD i 0 < 256) (hc : ∀ j u, (cv olds)[j]? = some u → W.cell? ((⟨b, 0, none⟩ : Addr).add j) = some u) :
    ∃ cap g W', (Builtin.append_ #[31, 3] 31 #[.slice (some ⟨b, 0, none⟩) 8 8, .int .i64 504]).run Tryd.prog W = .ok (.slice (some ⟨g, 0, none⟩) 512 cap) W' ∧ 512 ≤ cap ∧ cap ≤ maxLen ∧
      Row W' (some ⟨g, 0, none⟩) (olds ++ List.replicate 504 0) ∧ W.heap.size ≤ g ∧ g < W'.heap.size ∧ Below W.heap.size W W' := by
  obtain ⟨i0, hi, hz0, hz1, hz2⟩ := info_parts Tryd.info5
  have hfo := run_firstCells_some (P := Tryd.prog) W.drew 1 8 ⟨b, 0, none⟩ 8 8 (cv olds) (by rw [cv_length, ho]) (by simpa using hc)
  have hw : IntKind.i64.wrap 504 = 504 := by decide
  have h48 : ¬ (281474976710656 < Builtin.nextslicecap 512 8) := by decide
  obtain ⟨o, HO⟩ : ∃ o : Obj, o = .cells ((cv olds).toArray ++ Builtin.zeroCells (Value.int .u8 0).cells 504 ++ Builtin.zeroCells (Value.int .u8 0).cells (grownCap W 512 8 5 - 512)) 5 := ⟨_, rfl⟩
  refine ⟨grownCap W 512 8 5, W.heap.size, W.drew.alloc o, ?_, grownCap_ge _ _ _ _, grownCap_le_maxLen _ _ _ _ (by decide), ?_, Nat.le_refl _, by simp, ?_⟩
  · simp [Builtin.append_, run_underlying Tryd.underlying31, run_underlying Tryd.underlying3, sizeOf, typeInfo, zeroValue, hi, hz0, hz1, hz2, asInt, asIntOf, hw, h48, hfo, Question.forced, newRow]
    rw [HO]
    simp [grownCap]
    exact fun c => absurd c (by decide)
  · have e1 : (W.drew.alloc o).heap[W.heap.size]? = some (.cells (cv (olds ++ List.replicate 504 0) ++ cv (List.replicate (grownCap W 512 8 5 - 512) 0)).toArray 5 (0, 0)) := by
      rw [HO, zeroCells_u8, zeroCells_u8]
      rw [show (W.drew.alloc (.cells ((cv olds).toArray ++ (cv (List.replicate 504 0)).toArray ++ (cv (List.replicate (grownCap W 512 8 5 - 512) 0)).toArray) 5)).heap[W.heap.size]? = some (.cells ((cv olds).toArray ++ (cv (List.replicate 504 0)).toArray ++ (cv (List.replicate (grownCap W 512 8 5 - 512) 0)).toArray) 5) from heap_alloc_new W.drew _]
      rw [cv_append, List.append_toArray, List.append_toArray]
    intro i hi
    refine ⟨W.heap.size, 0, rfl, ?_, ?_⟩
    · rw [cell_of_row _ W.heap.size (0 + i) _ 5 (0, 0) e1]
      have := cv_get (olds ++ List.replicate 504 0) i hi
      rw [Nat.zero_add, List.getElem?_toArray, List.getElem?_append_left (by rw [cv_length]; exact hi)]
      exact this
    · rw [getD_app2]
      split
      · exact hb i
      · rw [getD_rep]; omega
  · exact ((Below.refl _ _).drew).alloc (Nat.le_refl _) _
theorem Tryd.info3 : (Tryd.prog.info? 3).map (·.size) = some 1 := by kernel_rfl
theorem run_index_pl (w : World) (p : Pl) (k : Nat) (h : k < 7) : (Instr.index 45 (.agg #[.int .i64 p.bl, .int .i64 p.ino, .int .i64 p.im, .int .i64 p.bm, .int .i64 p.tb, .int .i64 p.da, .int .i64 p.dc]) (.int .i64 (k : Int))).run Tryd.prog w = .ok (.int .i64 (fieldI p k)) w := by
  have hs : (sizeOf 3).run Tryd.prog w = .ok 1 w := by
    obtain ⟨i, hi, e⟩ := Option.map_eq_some_iff.1 Tryd.info3
    simp [sizeOf, typeInfo, hi, e]
  have hg : (#[Value.int .i64 p.bl, .int .i64 p.ino, .int .i64 p.im, .int .i64 p.bm, .int .i64 p.tb, .int .i64 p.da, .int .i64 p.dc] : Array Value)[k]? = some (.int .i64 (fieldI p k)) := by
    match k, h with
    | 0, _ => rfl
    | 1, _ => rfl
    | 2, _ => rfl
    | 3, _ => rfl
    | 4, _ => rfl
    | 5, _ => rfl
    | 6, _ => rfl
  simp [Instr.index, asIntOf, run_underlying Tryd.underlying45, part, isAgg, run_underlying Tryd.underlying3, hs, h, hg]
  match k, h with
  | 0, _ => rfl
  | 1, _ => rfl
  | 2, _ => rfl
  | 3, _ => rfl
  | 4, _ => rfl
  | 5, _ => rfl
  | 6, _ => rfl
theorem nums_wrap (p : Pl) (k : Nat) : IntKind.u64.wrap (fieldI p k) = ((nums p k : Nat) : Int) := by
  rw [IntKind.wrap_u64]
  unfold nums
  have := Int.emod_nonneg (fieldI p k) (show (18446744073709551616 : Int) ≠ 0 by decide)
  omega
theorem nums_le (p : Pl) (k : Nat) : nums p k ≤ 18446744073709551615 := by
  unfold nums
  have := Int.emod_lt_of_pos (fieldI p k) (show (0 : Int) < 18446744073709551616 by decide)
  omega
def upto (num : Nat → Nat) (k : Nat) : Nat → Nat := fun j => if j < k then num j else 0
theorem upto_zero (num : Nat → Nat) : upto num 0 = fun _ => 0 := by funext j; simp [upto]
theorem upto_step (num : Nat → Nat) (k : Nat) : (fun x => if x = k then num k else upto num k x) = upto num (k + 1) := by
  funext j
  unfold upto
  by_cases h : j = k
  · subst h; simp
  · by_cases h2 : j < k
    · simp [h, h2, show j < k + 1 by omega]
    · simp [h, h2, show ¬ j < k + 1 by omega]
theorem upto_all (num : Nat → Nat) : bodyL (upto num 7) = bodyL num := bodyL_congr (fun q hq => by simp [upto, hq])
/-- Put of a number. -/
theorem putN_any (g cap : Nat) (num : Nat → Nat) (q V : Nat) (w : World) (hr : Row w (some ⟨g, 0, none⟩) (bodyL num)) (hq : q < 7) (hV : V ≤ 18446744073709551615) :
    Calls Tryd.prog 26 #[.slice (some ⟨g, 0, none⟩) 512 cap, .int .i64 ((8 + 4 * q : Nat) : Int), .int .i64 4, .bool false, .int .u64 (V : Int)] w fun e w' =>
      ∃ g', e = .returned (.tuple #[.slice (some ⟨g', 0, none⟩) 512 512, .bool true]) ∧ Own w.heap.size w' g' 512 (bodyL (fun x => if x = q then V else num x)) ∧ Below w.heap.size w w' := by
  have := put_yes (some ⟨g, 0, none⟩) cap (bodyL num) (8 + 4 * q) 4 false V w hr (by rw [bodyL_len]; omega) (by omega) (by omega) (by rw [bodyL_len]; omega) hV
  rw [bodyL_len] at this
  refine this.mono ?_
  rintro e w' ⟨⟨g', rfl, hown⟩, hb⟩
  rw [body_put num q V hq] at hown
  exact ⟨g', rfl, hown, hb⟩
/-- Put of the sum. -/
theorem putS_any (g cap : Nat) (num : Nat → Nat) (w : World) (hr : Row w (some ⟨g, 0, none⟩) (bodyL num)) :
    Calls Tryd.prog 26 #[.slice (some ⟨g, 0, none⟩) 512 cap, .int .i64 36, .int .i64 4, .bool false, .int .u64 ((sumN num : Nat) : Int)] w fun e w' =>
      ∃ g', e = .returned (.tuple #[.slice (some ⟨g', 0, none⟩) 512 512, .bool true]) ∧ Own w.heap.size w' g' 512 (encL num) ∧ Below w.heap.size w w' := by
  have hs := sumN_lt num
  have := put_yes (some ⟨g, 0, none⟩) cap (bodyL num) 36 4 false (sumN num) w hr (by rw [bodyL_len]; omega) (by omega) (by omega) (by rw [bodyL_len]; omega) (by omega)
  rw [bodyL_len] at this
  refine this.mono ?_
  rintro e w' ⟨⟨g', rfl, hown⟩, hb⟩
  exact ⟨g', rfl, hown, hb⟩
set_option maxRecDepth 100000 in
theorem encode_any (p : Pl) (w : World) (ht : Tab w) :
    Calls Tryd.prog 15 #[p.v] w fun e w' => (∃ g, e = .returned (.slice (some ⟨g, 0, none⟩) 512 512) ∧ Own w.heap.size w' g 512 (encL (nums p))) ∧ Below w.heap.size w w' := by
  obtain ⟨i0, hi, hz0, hz1, hz2⟩ := info_parts Tryd.info5
  obtain ⟨p1, p2, p3, p4, p5, p6, p7⟩ := p
  have HF : Hid _ := fields_any ⟨p1, p2, p3, p4, p5, p6, p7⟩
  simp only [Pl.v] at HF ⊢
  obtain ⟨w1, hw1⟩ : ∃ w1, w1 = w.alloc (.cells #[.int .i64 p1, .int .i64 p2, .int .i64 p3, .int .i64 p4, .int .i64 p5, .int .i64 p6, .int .i64 p7] 23) := ⟨_, rfl⟩
  have hs1 : w1.heap.size = w.heap.size + 1 := by rw [hw1]; simp
  have kc := fun (C : Array Value) (n c : Nat) => Lib.run_convert_bytes_const (P := Tryd.prog) w1 31 5 C n c Tryd.underlying31 Tryd.underlying5
  rw [hs1] at kc
  have hb1 : Below w1.heap.size w1 (w1.alloc (.cells (cv mag).toArray 5 (8, 9))) := (Below.refl _ _).alloc (Nat.le_refl _) _
  obtain ⟨cap, g, W2, hap, hcap, hcm, hrow, hg1, hg2, hb2⟩ := app_zeros (w1.alloc (.cells (cv mag).toArray 5 (8, 9))) w1.heap.size mag rfl mag_lt (by
    intro j u hj
    rw [Addr.add_lit, Nat.zero_add, cell_of_row _ w1.heap.size j (cv mag).toArray 5 (8, 9) (heap_alloc_new w1 _)]
    simpa using hj)
  rw [hs1] at hap
  have hb12 := hb1.trans (hb2.mono hb1.size)
  have hbx : BoxAt w1 w.heap.size ⟨p1, p2, p3, p4, p5, p6, p7⟩ := by rw [hw1]; exact box_new w ⟨p1, p2, p3, p4, p5, p6, p7⟩
  obtain ⟨c0, c1, c2, c3, c4, c5, c6⟩ := hbx.below hb12
  have hbw : Below w.heap.size w W2 := by
    have h0 : Below w.heap.size w w1 := by rw [hw1]; exact (Below.refl _ _).alloc (Nat.le_refl _) _
    exact h0.trans (hb12.mono h0.size)
  rw [← body_zero] at hrow
  clear hb1 hb2 hbx hb12
  rw [hw1] at kc hap
  go_enter Tryd.func15, Tryd.ntmps15
  go_wp2_with (first
    | (at_builtin; refine Lib.wpList_append_run _ rfl _ _ _ _ rfl _ _ rfl rfl _ _ hap ?_)
    | (go_at_call 25; refine (HF.out _).mono ?_; rintro e W3 ⟨rfl, hb3⟩; have hrow3 := hrow.below hb3; have hb4 := hbw.trans (hb3.mono hbw.size); clear hrow hb3 hap kc c0 c1 c2 c3 c4 c5 c6))
  go_loopw [3, 11] (fun b i wr => ∃ (k g cap : Nat), k ≤ 7 ∧ i = .int .i64 k ∧ b = .slice (some ⟨g, 0, none⟩) 512 cap ∧ 512 ≤ cap ∧ cap ≤ maxLen ∧ Row wr (some ⟨g, 0, none⟩) (bodyL (upto (nums ⟨p1, p2, p3, p4, p5, p6, p7⟩) k)) ∧ Below w.heap.size w wr) (fun _ i _ => 7 - (iof i).toNat)
  case atStart => exact ⟨0, g, cap, by omega, rfl, rfl, hcap, hcm, by rw [upto_zero]; exact hrow3, hb4⟩
  case round =>
    clear hrow3 hb4 hcap hcm hg1 hg2 HF hbw
    obtain ⟨k, g, cap, hk, rfl, rfl, hcap, hcm, hrow, hbw⟩ := hrel
    by_cases hlt : k < 7
    · have hltI : (k : Int) < 7 := by omega
      have hix := fun w' => run_index_pl w' ⟨p1, p2, p3, p4, p5, p6, p7⟩ k hlt
      have hwV := nums_wrap ⟨p1, p2, p3, p4, p5, p6, p7⟩ k
      have HP : Hid _ := putN_any g cap (upto (nums ⟨p1, p2, p3, p4, p5, p6, p7⟩) k) k (nums ⟨p1, p2, p3, p4, p5, p6, p7⟩ k) wr hrow hlt (nums_le _ _)
      rw [upto_step] at HP
      have HN : Hid _ := numberAt_any k
      have HX : Hid (∀ i, (bodyL (upto (nums ⟨p1, p2, p3, p4, p5, p6, p7⟩) (k + 1))).getD i 0 < 256) := bodyL_lt _
      obtain ⟨X, HXE⟩ : ∃ X, Hid (bodyL (upto (nums ⟨p1, p2, p3, p4, p5, p6, p7⟩) (k + 1)) = X) := ⟨_, rfl⟩
      rw [HXE.out] at HP HX
      simp only at hix
      generalize fieldI ⟨p1, p2, p3, p4, p5, p6, p7⟩ k = x at *
      generalize nums ⟨p1, p2, p3, p4, p5, p6, p7⟩ k = V at *
      have HSZ : Hid (w.heap.size ≤ wr.heap.size) := hbw.size
      clear hrow
      go_wp2_with (first
        | (go_at_call 22; refine (HN.out _ (by omega)).mono ?_; rintro e w1 ⟨rfl, hw⟩; subst w1)
        | (go_at_call 26; refine Calls.mono HP.out ?_; rintro e w5 ⟨g', rfl, hown, hb5⟩))
      refine ⟨⟨k + 1, g', 512, by omega, by go_num, rfl, by omega, by decide, by rw [HXE.out]; exact hown.row HX.out, hbw.trans (hb5.mono HSZ.out)⟩, by simp [iof]; omega⟩
    · obtain rfl : k = 7 := by omega
      rw [upto_all] at hrow
      have hlen : ((bodyL (nums ⟨p1, p2, p3, p4, p5, p6, p7⟩)).take 36).length = 36 := by rw [List.length_take, bodyL_len]; rfl
      have hrt : Row wr (some ⟨g, 0, none⟩) ((bodyL (nums ⟨p1, p2, p3, p4, p5, p6, p7⟩)).take 36) := by
        have := hrow
        rw [← List.take_append_drop 36 (bodyL (nums ⟨p1, p2, p3, p4, p5, p6, p7⟩))] at this
        exact row_front this
      have hS := fun cp => sum_any (some ⟨g, 0, none⟩) cp ((bodyL (nums ⟨p1, p2, p3, p4, p5, p6, p7⟩)).take 36) wr (ht.below hbw) hrt (by rw [hlen]; decide)
      rw [hlen] at hS
      have hsl := sumN_lt (nums ⟨p1, p2, p3, p4, p5, p6, p7⟩)
      have HP : Hid _ := putS_any g cap (nums ⟨p1, p2, p3, p4, p5, p6, p7⟩) wr hrow
      have HS : Hid (∀ cp, Calls Tryd.prog 27 #[.slice (some ⟨g, 0, none⟩) 36 cp] wr fun e w' => e = .returned (.int .u32 ((sumN (nums ⟨p1, p2, p3, p4, p5, p6, p7⟩) : Nat) : Int)) ∧ w' = wr) := hS
      have hwk : IntKind.u64.wrap ((sumN (nums ⟨p1, p2, p3, p4, p5, p6, p7⟩) : Nat) : Int) = ((sumN (nums ⟨p1, p2, p3, p4, p5, p6, p7⟩) : Nat) : Int) := wu64 _ (by omega) (by omega)
      have hcI : (512 : Int) ≤ (cap : Int) := by omega
      have hcJ : (36 : Int) ≤ (cap : Int) := by omega
      have HSZ : Hid (w.heap.size ≤ wr.heap.size) := hbw.size
      clear hS hrt hlen hrow ht
      generalize sumN (nums ⟨p1, p2, p3, p4, p5, p6, p7⟩) = S at *
      go_wp2_with (first
        | (go_at_call 27; refine (HS.out _).mono ?_; rintro e w1 ⟨rfl, hw⟩; subst w1)
        | (go_at_call 26; refine Calls.mono HP.out ?_; rintro e w5 ⟨g', rfl, hown, hb5⟩))
      go_ret
      have hown2 : Own w.heap.size w5 g' 512 (encL (nums ⟨p1, p2, p3, p4, p5, p6, p7⟩)) := ⟨hown.1, hown.2.elim Or.inl (fun ⟨g, cap, cur, hv, hg, r⟩ => Or.inr ⟨g, cap, cur, hv, Nat.le_trans HSZ.out hg, r⟩)⟩
      exact ⟨⟨g', rfl, hown2⟩, hbw.trans (hb5.mono HSZ.out)⟩
end Go.Proofs.YtbiniohacnaieaaDoor
