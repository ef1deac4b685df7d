/- The document's own Fresh. -/
import Derived.Test.YtgpeldmplkijlaaDoorFh
import Derived.Test.YtgpeldmplkijlaaDoorRx
namespace Go.Proofs.YtgpeldmplkijlaaDoor
set_option linter.unusedSimpArgs false
set_option linter.unusedVariables false
open Go.RowKit
theorem rrow_new (w : World) (r : Rc) : RRow (w.alloc (.cells r.cells 58)) (some ⟨w.heap.size, 0, none⟩) [r] := by
  have hc : ∀ j, (w.alloc (.cells r.cells 58)).cell? ⟨w.heap.size, j, none⟩ = r.cells[j]? := fun j => cell_of_row _ w.heap.size j r.cells 58 (0, 0) (heap_alloc_new w _)
  intro i hi
  obtain rfl : i = 0 := by simpa using hi
  exact ⟨w.heap.size, 0, rfl, hc 0, hc 1, hc 2, hc 3, hc 4, hc 5⟩
theorem num_take (rs : List Rc) (k : Nat) (h : k < rs.length) : (numL rs.length rs).take (k + 1) = (numL rs.length rs).take k ++ [num (rs.getD k rz) k] := by
  rw [List.take_succ_eq_append_getElem (by rw [numL_len]; exact h)]
  simp [numL, h]
/-- The batch that grows. -/
structure RFS (w : World) (base sp prod seq : Int) (v : Value) (L : List Rc) (x : World) : Prop where
  own : x.ownsRow (w.heap.size + 2) 58 6 v L.length (rcv L)
  box : x.heap[w.heap.size + 1]? = some (.cells #[.int .i64 base, .int .i64 sp, .int .i64 prod, .int .i64 seq, v] 24 (0, 0))
  res : x.heap[w.heap.size]? = some (.cells #[.int .i64 0, .int .i64 0, .int .i64 0, .int .i64 0, .slice none 0 0] 24 (0, 0))
  bel : Below w.heap.size w x
theorem RFS.new (w : World) (base sp prod seq : Int) : RFS w base sp prod seq (.slice none 0 0) [] ((w.alloc (.cells #[.int .i64 0, .int .i64 0, .int .i64 0, .int .i64 0, .slice none 0 0] 24)).alloc (.cells #[.int .i64 base, .int .i64 sp, .int .i64 prod, .int .i64 seq, .slice none 0 0] 24)) := by
  have b1 : Below w.heap.size w (w.alloc (.cells #[.int .i64 0, .int .i64 0, .int .i64 0, .int .i64 0, .slice none 0 0] 24)) := below_box _
  refine ⟨World.ownsRow_nil _ _ _ _, ?_, ?_, b1.alloc b1.size _⟩
  · have := heap_alloc_new (w.alloc (.cells #[.int .i64 0, .int .i64 0, .int .i64 0, .int .i64 0, .slice none 0 0] 24)) (.cells #[.int .i64 base, .int .i64 sp, .int .i64 prod, .int .i64 seq, .slice none 0 0] 24)
    simpa using this
  · rw [(below_box (w := w.alloc (.cells #[.int .i64 0, .int .i64 0, .int .i64 0, .int .i64 0, .slice none 0 0] 24)) _).block w.heap.size (by simp)]
    exact heap_alloc_new w _
theorem RFS.below {w x y : World} {base sp prod seq : Int} {v : Value} {L : List Rc} (h : RFS w base sp prod seq v L x) (hb : Below x.heap.size x y) : RFS w base sp prod seq v L y :=
  ⟨owns_below h.own hb, (hb.block _ (Array.getElem?_eq_some_iff.1 h.box).1).trans h.box, (hb.block _ (Array.getElem?_eq_some_iff.1 h.res).1).trans h.res, h.bel.trans (hb.mono h.bel.size)⟩
theorem RFS.cells {w x : World} {base sp prod seq : Int} {v : Value} {L : List Rc} (h : RFS w base sp prod seq v L x) :
    x.cell? ⟨w.heap.size + 1, 0, none⟩ = some (.int .i64 base) ∧ x.cell? ⟨w.heap.size + 1, 1, none⟩ = some (.int .i64 sp) ∧ x.cell? ⟨w.heap.size + 1, 2, none⟩ = some (.int .i64 prod) ∧ x.cell? ⟨w.heap.size + 1, 3, none⟩ = some (.int .i64 seq) ∧ x.cell? ⟨w.heap.size + 1, 4, none⟩ = some v ∧ w.heap.size + 1 < x.heap.size ∧ ∀ i, x.frozen? ⟨w.heap.size + 1, i, none⟩ = false := by
  have hc : ∀ j, x.cell? ⟨w.heap.size + 1, j, none⟩ = _ := fun j => cell_of_row _ (w.heap.size + 1) j _ 24 (0, 0) h.box
  exact ⟨by rw [hc]; rfl, by rw [hc]; rfl, by rw [hc]; rfl, by rw [hc]; rfl, by rw [hc]; rfl, (Array.getElem?_eq_some_iff.1 h.box).1, fun i => by simp [World.frozen?, h.box]⟩
/-- Behind the append, and the store of the new row. -/
theorem RFS.grow {w x y : World} {base sp prod seq : Int} {v v' : Value} {L : List Rc} {r : Rc} (h : RFS w base sp prod seq v L x) (hb : Below (w.heap.size + 2) x y) (hown : y.ownsRow (w.heap.size + 2) 58 6 v' (L.length + 1) (rcv L ++ rcv [r])) : RFS w base sp prod seq v' (L ++ [r]) (y.setCell ⟨w.heap.size + 1, 4, none⟩ v') := by
  have hbx : y.heap[w.heap.size + 1]? = _ := (hb.block (w.heap.size + 1) (by omega)).trans h.box
  have ho : ∀ j, j ≠ w.heap.size + 1 → (y.setCell ⟨w.heap.size + 1, 4, none⟩ v').heap[j]? = y.heap[j]? := by
    intro j hj
    unfold World.setCell
    simp [Array.getElem?_modify, Ne.symm hj]
  refine ⟨?_, by rw [setCell_heap hbx]; rfl, by rw [ho _ (by omega), hb.block w.heap.size (by omega)]; exact h.res, (h.bel.trans (hb.mono (by omega))).setCell (p := ⟨w.heap.size + 1, 4, none⟩) (by show _ ≤ w.heap.size + 1; omega) _⟩
  rw [rcv_app, List.length_append]
  rcases hown.2 with ⟨e, e0⟩ | ⟨g, cap, cur, e, hB, hg, r⟩
  · omega
  · exact ⟨hown.1, .inr ⟨g, cap, cur, e, hB, by rw [ho _ (by omega)]; exact hg, r⟩⟩
theorem rfs_cell4 {w x y : World} {base sp prod seq : Int} {v : Value} {L : List Rc} (h : RFS w base sp prod seq v L x) (hb : Below (w.heap.size + 2) x y) : y.cell? ⟨w.heap.size + 1, 4, none⟩ = some v ∧ y.frozen? ⟨w.heap.size + 1, 4, none⟩ = false ∧ w.heap.size + 1 < y.heap.size := by
  obtain ⟨_, _, _, _, c4, cz, cf⟩ := RFS.cells h
  exact ⟨(hb.cell (p := ⟨w.heap.size + 1, 4, none⟩) (by show w.heap.size + 1 < _; omega)).trans c4, (hb.frozen (p := ⟨w.heap.size + 1, 4, none⟩) (by show w.heap.size + 1 < _; omega)).trans (cf 4), Nat.lt_of_lt_of_le cz hb.size⟩
theorem RRow.keep' {w : World} {a : Option Addr} {R : Nat} {rs : List Rc} {cs : Array Value} (h : RRow w a rs) (hg : ∀ g, a = some g → g.block ≠ R) : RRow (w.setRow R cs) a rs := by
  intro i hi
  obtain ⟨b, off, e, h0, h1, h2, h3, h4, h5⟩ := h i hi
  have hbM : b ≠ R := hg _ e
  exact ⟨b, off, e, (cell_setRow_ne hbM).trans h0, (cell_setRow_ne hbM).trans h1, (cell_setRow_ne hbM).trans h2, (cell_setRow_ne hbM).trans h3, (cell_setRow_ne hbM).trans h4, (cell_setRow_ne hbM).trans h5⟩
set_option maxHeartbeats 1600000 in
set_option maxRecDepth 100000 in
theorem rfresh_more (base prod seq : Int) (a : Option Addr) (cap : Nat) (rs : List Rc) (w : World) (hr : RRow w a rs) (hl : rs.length ≤ 1000) (hp : prod ≤ 9223372036854775807) (hs : seq ≤ 9223372036854775807) (hone : ¬ (rs.length : Int) < 1) :
    Calls Tryd.prog 24 #[.int .i64 base, .int .i64 prod, .int .i64 seq, .slice a rs.length cap] w fun e w' => ∃ a' c', e = .returned (.tuple #[bav (frR base prod seq rs) a' c', .int .i64 (chkB (frB base prod seq rs))]) ∧ RRow w' a' (frR base prod seq rs).rs ∧ (a' = none → c' = 0) ∧ Below w.heap.size w w' := by
  have hsp : max 1 (rs.length : Int) = (rs.length : Int) := by omega
  have HFB : Hid (frB base prod seq rs = ⟨base, (rs.length : Int), prod, seq, numL rs.length rs⟩) := by show _ = _; unfold frB; rw [hsp]
  have HCK : Hid (∀ x a' c', RRow x a' (numL rs.length rs) → Calls Tryd.prog 17 #[.agg #[.int .i64 base, .int .i64 (rs.length : Int), .int .i64 prod, .int .i64 seq, .slice a' rs.length c']] x fun e w' => e = .returned (.int .i64 (chkB (frB base prod seq rs))) ∧ Below x.heap.size x w') := by
    intro x a' c' h2
    have := rcheckB_any (frB base prod seq rs) a' c' x h2 ⟨hp, hs⟩ (by show (numL _ _).length ≤ _; rw [numL_len]; unfold maxLen; omega)
    rw [show bav (frB base prod seq rs) a' c' = .agg #[.int .i64 base, .int .i64 (rs.length : Int), .int .i64 prod, .int .i64 seq, .slice a' rs.length c'] by rw [HFB.out]; simp only [bav, numL_len]] at this
    exact this
  have HR0 : Hid (RRow w a rs) := hr
  have HFR : Hid (frR base prod seq rs = if chkB (frB base prod seq rs) = 0 then frB base prod seq rs else bz) := rfl
  generalize chkB (frB base prod seq rs) = ck at *
  generalize frR base prod seq rs = R at *
  rw [HFB.out] at HFR
  obtain ⟨F, HF⟩ : ∃ F : Nat → List Rc, Hid (∀ k, (numL rs.length rs).take k = F k) := ⟨_, fun _ => rfl⟩
  have HFs : Hid (∀ k, k < rs.length → F (k + 1) = F k ++ [num (rs.getD k rz) k]) := fun k hk => by rw [← HF.out, ← HF.out]; exact num_take rs k hk
  have HFl : Hid (∀ k, k ≤ rs.length → (F k).length = k) := fun k hk => by rw [← HF.out, List.length_take, numL_len]; omega
  have HFa : Hid (F rs.length = numL rs.length rs) := by show _ = _; rw [← HF.out, List.take_of_length_le (by rw [numL_len]; omega)]
  have HF0 : Hid (F 0 = []) := by show _ = _; rw [← HF.out]; rfl
  clear hr HFB hsp HF
  go_enter Tryd.func24, Tryd.ntmps24
  go_wp2_with fail
  go_loopw [11] (fun i x => ∃ (k : Nat) (v : Value), k ≤ rs.length ∧ i = .int .i64 k ∧ RFS w base (rs.length : Int) prod seq v (F k) x) (fun i _ => rs.length - (intOf i).toNat)
  case atStart => exact ⟨0, _, by omega, rfl, by rw [HF0.out]; exact RFS.new w base (rs.length : Int) prod seq⟩
  case round =>
    obtain ⟨k, v, hk, rfl, hS⟩ := hrel
    have hfk := HFl.out k hk
    obtain ⟨av', cv', rfl, hrv, hnv, hlv, hmv⟩ := owns_rrow hS.own
    obtain ⟨c0, c1, c2, c3, c4, cz, cf⟩ := RFS.cells hS
    by_cases hlt : k < rs.length
    · have hltI : (k : Int) < (rs.length : Int) := by omega
      have HFk : Hid (F (k + 1) = F k ++ [num (rs.getD k rz) k]) := HFs.out k hlt
      have HS : Hid (RFS w base (rs.length : Int) prod seq (.slice av' k cv') (F k) wr) := by have h2 := hS; rw [hfk] at h2; exact h2
      rw [hfk] at c4
      obtain ⟨b', off, rfl, z0, z1, z2, z3, z4, z5⟩ := (RRow.below HR0.out hS.bel) k hlt
      have hbz := World.block_lt_of_cell? _ _ z0
      simp only at hbz
      have hz2 : w.heap.size + 2 ≤ wr.heap.size := by omega
      clear hS hrv
      unfold num at HFk
      generalize rs.getD k rz = r at *
      obtain ⟨hk', kk, hv, v, t, o⟩ := r
      simp only at z0 z1 z2 z3 z4 z5 HFk
      have HRN : Hid (∀ o : Obj, RRow ((wr.alloc o).alloc (.cells #[.bool hk', .string kk, .bool hv, .string v, .int .i64 t, .int .i64 (k : Int)] 58)) (some ⟨wr.heap.size + 1, 0, none⟩) [⟨hk', kk, hv, v, t, (k : Int)⟩]) := fun o => by have h2 := rrow_new (wr.alloc o) ⟨hk', kk, hv, v, t, (k : Int)⟩; rw [show (wr.alloc o).heap.size = wr.heap.size + 1 by simp] at h2; exact h2
      have HT2 : Hid (∀ o1 o2, Below wr.heap.size wr ((wr.alloc o1).alloc o2)) := fun o1 o2 => (below_box o1).trans ((below_box o2).mono (by simp))
      go_wp2_with (at_builtin; refine wpList_append_recs (by rfl) _ _ rfl (w.heap.size + 2) _ _ _ _ rfl (RFS.below HS.out (HT2.out _ _)).own (Below.refl _ _) (by simp; omega) _ 1 [⟨hk', kk, hv, v, t, (k : Int)⟩] rfl (HRN.out _) (fun c => by cases c) (by simp; omega) ?_; intro v5 w5 hown5 hb5; have HG : Hid (RFS w base (rs.length : Int) prod seq v5 (F k ++ [⟨hk', kk, hv, v, t, (k : Int)⟩]) (w5.setCell ⟨w.heap.size + 1, 4, none⟩ v5)) := RFS.grow (RFS.below HS.out (HT2.out _ _)) hb5 hown5; clear c0 c1 c2 c3 c4 cz cf z0 z1 z2 z3 z4 z5; obtain ⟨y4, yf, yz⟩ := rfs_cell4 (RFS.below HS.out (HT2.out _ _)) hb5; obtain ⟨a5, k5, rfl, -⟩ := owns_rrow (rs := F k ++ [⟨hk', kk, hv, v, t, (k : Int)⟩]) (by rw [rcv_app, List.length_append]; exact hown5); clear hown5 hb5)
      exact ⟨⟨k + 1, _, by omega, by go_num, by rw [HFk.out]; have h2 := HG.out; rw [show (F k ++ [(⟨hk', kk, hv, v, t, (k : Int)⟩ : Rc)]).length = k + 1 by simp [hfk]] at h2; exact h2⟩, by simp [intOf]; omega⟩
    · obtain rfl : k = rs.length := by omega
      rw [hfk] at hS c4
      rw [HFa.out] at hS hrv
      have HS : Hid (RFS w base (rs.length : Int) prod seq (.slice av' rs.length cv') (numL rs.length rs) wr) := hS
      have HRR : Hid (RRow wr av' (numL rs.length rs)) := hrv
      clear hS hrv
      have hav : ∀ g, av' = some g → g.block ≠ w.heap.size := by
        intro g hg
        subst hg
        rcases HS.out.own.2 with ⟨e, _⟩ | ⟨g', cap', cur, e, hB, _⟩
        · cases e
        · injection e with e1
          injection e1 with e1
          rw [e1]
          show g' ≠ _
          omega
      have HAV : Hid _ := hav
      clear hav
      by_cases hck : ck = 0
      · subst hck
        have hRe : R = ⟨base, (rs.length : Int), prod, seq, numL rs.length rs⟩ := by rw [HFR.out, if_pos rfl]
        subst hRe
        go_wp2_with (first
          | (go_at_call 17; refine (HCK.out _ _ _ HRR.out).mono ?_; rintro e w3 ⟨rfl, hb3⟩; have HS3 : Hid (RFS w base (rs.length : Int) prod seq (.slice av' rs.length cv') (numL rs.length rs) w3) := RFS.below HS.out hb3; have HR3 : Hid (RRow w3 av' (numL rs.length rs)) := RRow.below HRR.out hb3; clear c0 c1 c2 c3 c4 cz cf hb3; obtain ⟨c0, c1, c2, c3, c4, cz, cf⟩ := RFS.cells HS3.out)
          | (have _t := HS3; refine wpList_store_row rfl 24 _ _ rfl w.heap.size #[.int .i64 base, .int .i64 (rs.length : Int), .int .i64 prod, .int .i64 seq, .slice av' rs.length cv'] rfl rfl 24 _ HS3.out.res Tryd.info24 rfl (bat_one _ _ _ _ _ _ _) ?_))
        refine bodyPost_ret (v := .tuple #[.agg #[.int .i64 base, .int .i64 (rs.length : Int), .int .i64 prod, .int .i64 seq, .slice av' rs.length cv'], .int .i64 0]) ?_ rfl ⟨av', cv', ?_, ?_, hnv, ?_⟩
        · exact results_bat (p := 8) (u := 9) (by rfl) _ _ w.heap.size _ _ (by rfl) (by rfl) rfl (setRow_heap _ _ _ _ _ _ HS3.out.res)
        · simp only [bav, numL_len]
        · exact RRow.keep' HR3.out HAV.out
        · exact below_setRow HS3.out.bel (Nat.le_refl _) _
      · have hck' : (ck != 0) = true := by rw [bne_iff_ne]; exact hck
        have hRe : R = bz := by rw [HFR.out, if_neg hck]
        subst hRe
        go_wp2_with (first
          | (go_at_call 17; refine (HCK.out _ _ _ HRR.out).mono ?_; rintro e w3 ⟨rfl, hb3⟩; have HS3 : Hid (RFS w base (rs.length : Int) prod seq (.slice av' rs.length cv') (numL rs.length rs) w3) := RFS.below HS.out hb3; clear c0 c1 c2 c3 c4 cz cf hb3; obtain ⟨c0, c1, c2, c3, c4, cz, cf⟩ := RFS.cells HS3.out)
          | (have _t := HS3; refine wpList_store_row rfl 24 _ _ rfl w.heap.size #[.int .i64 0, .int .i64 0, .int .i64 0, .int .i64 0, .slice none 0 0] rfl rfl 24 _ HS3.out.res Tryd.info24 rfl (bat_one _ _ _ _ _ _ _) ?_))
        refine bodyPost_ret (v := .tuple #[.agg #[.int .i64 0, .int .i64 0, .int .i64 0, .int .i64 0, .slice none 0 0], .int .i64 ck]) ?_ rfl ⟨none, 0, rfl, RRow.nil _ _, (fun _ => rfl), ?_⟩
        · exact results_bat (p := 8) (u := 9) (by rfl) _ _ w.heap.size _ _ (by rfl) (by rfl) rfl (setRow_heap _ _ _ _ _ _ HS3.out.res)
        · exact below_setRow HS3.out.bel (Nat.le_refl _) _
set_option maxHeartbeats 1600000 in
set_option maxRecDepth 100000 in
theorem rfresh_less (base prod seq : Int) (a : Option Addr) (cap : Nat) (rs : List Rc) (w : World) (hr : RRow w a rs) (hl : rs.length ≤ 1000) (hp : prod ≤ 9223372036854775807) (hs : seq ≤ 9223372036854775807) (hone : (rs.length : Int) < 1) :
    Calls Tryd.prog 24 #[.int .i64 base, .int .i64 prod, .int .i64 seq, .slice a rs.length cap] w fun e w' => ∃ a' c', e = .returned (.tuple #[bav (frR base prod seq rs) a' c', .int .i64 (chkB (frB base prod seq rs))]) ∧ RRow w' a' (frR base prod seq rs).rs ∧ (a' = none → c' = 0) ∧ Below w.heap.size w w' := by
  have hsp : max 1 (rs.length : Int) = 1 := by omega
  have HFB : Hid (frB base prod seq rs = ⟨base, 1, prod, seq, numL rs.length rs⟩) := by show _ = _; unfold frB; rw [hsp]
  have HCK : Hid (∀ x a' c', RRow x a' (numL rs.length rs) → Calls Tryd.prog 17 #[.agg #[.int .i64 base, .int .i64 1, .int .i64 prod, .int .i64 seq, .slice a' rs.length c']] x fun e w' => e = .returned (.int .i64 (chkB (frB base prod seq rs))) ∧ Below x.heap.size x w') := by
    intro x a' c' h2
    have := rcheckB_any (frB base prod seq rs) a' c' x h2 ⟨hp, hs⟩ (by show (numL _ _).length ≤ _; rw [numL_len]; unfold maxLen; omega)
    rw [show bav (frB base prod seq rs) a' c' = .agg #[.int .i64 base, .int .i64 1, .int .i64 prod, .int .i64 seq, .slice a' rs.length c'] by rw [HFB.out]; simp only [bav, numL_len]] at this
    exact this
  have HR0 : Hid (RRow w a rs) := hr
  have HFR : Hid (frR base prod seq rs = if chkB (frB base prod seq rs) = 0 then frB base prod seq rs else bz) := rfl
  generalize chkB (frB base prod seq rs) = ck at *
  generalize frR base prod seq rs = R at *
  rw [HFB.out] at HFR
  obtain ⟨F, HF⟩ : ∃ F : Nat → List Rc, Hid (∀ k, (numL rs.length rs).take k = F k) := ⟨_, fun _ => rfl⟩
  have HFs : Hid (∀ k, k < rs.length → F (k + 1) = F k ++ [num (rs.getD k rz) k]) := fun k hk => by rw [← HF.out, ← HF.out]; exact num_take rs k hk
  have HFl : Hid (∀ k, k ≤ rs.length → (F k).length = k) := fun k hk => by rw [← HF.out, List.length_take, numL_len]; omega
  have HFa : Hid (F rs.length = numL rs.length rs) := by show _ = _; rw [← HF.out, List.take_of_length_le (by rw [numL_len]; omega)]
  have HF0 : Hid (F 0 = []) := by show _ = _; rw [← HF.out]; rfl
  clear hr HFB hsp HF
  go_enter Tryd.func24, Tryd.ntmps24
  go_wp2_with fail
  go_loopw [11] (fun i x => ∃ (k : Nat) (v : Value), k ≤ rs.length ∧ i = .int .i64 k ∧ RFS w base 1 prod seq v (F k) x) (fun i _ => rs.length - (intOf i).toNat)
  case atStart => exact ⟨0, _, by omega, rfl, by rw [HF0.out]; exact RFS.new w base 1 prod seq⟩
  case round =>
    obtain ⟨k, v, hk, rfl, hS⟩ := hrel
    have hfk := HFl.out k hk
    obtain ⟨av', cv', rfl, hrv, hnv, hlv, hmv⟩ := owns_rrow hS.own
    obtain ⟨c0, c1, c2, c3, c4, cz, cf⟩ := RFS.cells hS
    by_cases hlt : k < rs.length
    · exfalso
      omega
    · obtain rfl : k = rs.length := by omega
      rw [hfk] at hS c4
      rw [HFa.out] at hS hrv
      have HS : Hid (RFS w base 1 prod seq (.slice av' rs.length cv') (numL rs.length rs) wr) := hS
      have HRR : Hid (RRow wr av' (numL rs.length rs)) := hrv
      clear hS hrv
      have hav : ∀ g, av' = some g → g.block ≠ w.heap.size := by
        intro g hg
        subst hg
        rcases HS.out.own.2 with ⟨e, _⟩ | ⟨g', cap', cur, e, hB, _⟩
        · cases e
        · injection e with e1
          injection e1 with e1
          rw [e1]
          show g' ≠ _
          omega
      have HAV : Hid _ := hav
      clear hav
      by_cases hck : ck = 0
      · subst hck
        have hRe : R = ⟨base, 1, prod, seq, numL rs.length rs⟩ := by rw [HFR.out, if_pos rfl]
        subst hRe
        go_wp2_with (first
          | (go_at_call 17; refine (HCK.out _ _ _ HRR.out).mono ?_; rintro e w3 ⟨rfl, hb3⟩; have HS3 : Hid (RFS w base 1 prod seq (.slice av' rs.length cv') (numL rs.length rs) w3) := RFS.below HS.out hb3; have HR3 : Hid (RRow w3 av' (numL rs.length rs)) := RRow.below HRR.out hb3; clear c0 c1 c2 c3 c4 cz cf hb3; obtain ⟨c0, c1, c2, c3, c4, cz, cf⟩ := RFS.cells HS3.out)
          | (have _t := HS3; refine wpList_store_row rfl 24 _ _ rfl w.heap.size #[.int .i64 base, .int .i64 1, .int .i64 prod, .int .i64 seq, .slice av' rs.length cv'] rfl rfl 24 _ HS3.out.res Tryd.info24 rfl (bat_one _ _ _ _ _ _ _) ?_))
        refine bodyPost_ret (v := .tuple #[.agg #[.int .i64 base, .int .i64 1, .int .i64 prod, .int .i64 seq, .slice av' rs.length cv'], .int .i64 0]) ?_ rfl ⟨av', cv', ?_, ?_, hnv, ?_⟩
        · exact results_bat (p := 8) (u := 9) (by rfl) _ _ w.heap.size _ _ (by rfl) (by rfl) rfl (setRow_heap _ _ _ _ _ _ HS3.out.res)
        · simp only [bav, numL_len]
        · exact RRow.keep' HR3.out HAV.out
        · exact below_setRow HS3.out.bel (Nat.le_refl _) _
      · have hck' : (ck != 0) = true := by rw [bne_iff_ne]; exact hck
        have hRe : R = bz := by rw [HFR.out, if_neg hck]
        subst hRe
        go_wp2_with (first
          | (go_at_call 17; refine (HCK.out _ _ _ HRR.out).mono ?_; rintro e w3 ⟨rfl, hb3⟩; have HS3 : Hid (RFS w base 1 prod seq (.slice av' rs.length cv') (numL rs.length rs) w3) := RFS.below HS.out hb3; clear c0 c1 c2 c3 c4 cz cf hb3; obtain ⟨c0, c1, c2, c3, c4, cz, cf⟩ := RFS.cells HS3.out)
          | (have _t := HS3; refine wpList_store_row rfl 24 _ _ rfl w.heap.size #[.int .i64 0, .int .i64 0, .int .i64 0, .int .i64 0, .slice none 0 0] rfl rfl 24 _ HS3.out.res Tryd.info24 rfl (bat_one _ _ _ _ _ _ _) ?_))
        refine bodyPost_ret (v := .tuple #[.agg #[.int .i64 0, .int .i64 0, .int .i64 0, .int .i64 0, .slice none 0 0], .int .i64 ck]) ?_ rfl ⟨none, 0, rfl, RRow.nil _ _, (fun _ => rfl), ?_⟩
        · exact results_bat (p := 8) (u := 9) (by rfl) _ _ w.heap.size _ _ (by rfl) (by rfl) rfl (setRow_heap _ _ _ _ _ _ HS3.out.res)
        · exact below_setRow HS3.out.bel (Nat.le_refl _) _
theorem rfresh_any (base prod seq : Int) (a : Option Addr) (cap : Nat) (rs : List Rc) (hl : rs.length ≤ 1000) (hp : prod ≤ 9223372036854775807) (hs : seq ≤ 9223372036854775807) : Frs 24 base prod seq a cap rs := fun w ht hr => by
  by_cases h1 : (rs.length : Int) < 1
  · exact rfresh_less base prod seq a cap rs w hr hl hp hs h1
  · exact rfresh_more base prod seq a cap rs w hr hl hp hs h1
end Go.Proofs.YtgpeldmplkijlaaDoor
