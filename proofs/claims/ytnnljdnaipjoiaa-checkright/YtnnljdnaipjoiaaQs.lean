/- The document's Fresh. -/
import Derived.Test.YtnnljdnaipjoiaaQr
import Derived.Deep.MidRow
import Derived.Laws.ResultCell
namespace Go.Proofs.Ytnnljdnaipjoiaa
set_option linter.unusedSimpArgs false
set_option linter.unusedVariables false
open Go.RowKit
def num (r : Rc) (k : Nat) : Rc := { r with o := (k : Int) }
def numL (rs : List Rc) : List Rc := (List.range rs.length).map fun i => num (rs.getD i rz) i
theorem numL_len (rs : List Rc) : (numL rs).length = rs.length := by simp [numL]
theorem num_take (rs : List Rc) (k : Nat) (h : k < rs.length) : (numL rs).take (k + 1) = (numL rs).take k ++ [num (rs.getD k rz) k] := by
  rw [List.take_succ_eq_append_getElem (by rw [numL_len]; exact h)]
  simp [numL, h]
theorem Try.info61t : (Try.prog.info? 61).map (·.size) = some 5 := by kernel_rfl
theorem results_bat {fn : Func} {p u : Tmp} (h : fn.results = #[.cell p 61, .tmp u]) (tmps : Array Value) (w : World) (g : Nat) (cs : Array Value) (v : Value) (hp : tmps.getD p undef = .pointer (some ⟨g, 0, none⟩)) (hv : tmps.getD u undef = v) (hi : cs.size = 5) (hg : w.heap[g]? = some (.cells cs 61 (0, 0))) :
    (results fn tmps).run Try.prog w = .ok (.tuple #[.agg cs, v]) w := by
  have h2 := run_loadVar_row (P := Try.prog) w g 61 61 cs (0, 0) _ hg Try.underlying61 rfl (by rw [hi]; exact Try.info61t)
  subst hv
  rw [results_cell_tmp h, hp]
  simp [asAddr, h2, Result.andThen]
theorem bat_one (c0 c1 c2 c3 : Int) (a : Option Addr) (n c : Nat) : (#[.int .i64 c0, .int .i64 c1, .int .i64 c2, .int .i64 c3, .slice a n c] : Array Value).all (·.oneCell') = true := by simp [Value.oneCell']
/-- The batch that grows. -/
structure RFS (w : World) (base sp prod seq : Int) (v : Value) (L : List Rc) (x : World) : Prop where
  own : x.ownsRow (w.heap.size + 2) 48 6 v L.length (rcv L)
  box : x.heap[w.heap.size + 1]? = some (.cells #[.int .i64 base, .int .i64 sp, .int .i64 prod, .int .i64 seq, v] 61 (0, 0))
  res : x.heap[w.heap.size]? = some (.cells #[.int .i64 0, .int .i64 0, .int .i64 0, .int .i64 0, .slice none 0 0] 61 (0, 0))
  bel : Below w.heap.size w x
theorem RFS.new (w : World) (base sp prod seq : Int) : RFS w base sp prod seq (.slice none 0 0) [] ((w.alloc (.cells #[.int .i64 0, .int .i64 0, .int .i64 0, .int .i64 0, .slice none 0 0] 61)).alloc (.cells #[.int .i64 base, .int .i64 sp, .int .i64 prod, .int .i64 seq, .slice none 0 0] 61)) := by
  have b1 : Below w.heap.size w (w.alloc (.cells #[.int .i64 0, .int .i64 0, .int .i64 0, .int .i64 0, .slice none 0 0] 61)) := below_box _
  refine ⟨World.ownsRow_nil _ _ _ _, ?_, ?_, b1.alloc b1.size _⟩
  · have := heap_alloc_new (w.alloc (.cells #[.int .i64 0, .int .i64 0, .int .i64 0, .int .i64 0, .slice none 0 0] 61)) (.cells #[.int .i64 base, .int .i64 sp, .int .i64 prod, .int .i64 seq, .slice none 0 0] 61)
    simpa using this
  · rw [(below_box (w := w.alloc (.cells #[.int .i64 0, .int .i64 0, .int .i64 0, .int .i64 0, .slice none 0 0] 61)) _).block w.heap.size (by simp)]
    exact heap_alloc_new w _
theorem RFS.below {w x y : World} {base sp prod seq : Int} {v : Value} {L : List Rc} (h : RFS w base sp prod seq v L x) (hb : Below x.heap.size x y) : RFS w base sp prod seq v L y :=
  ⟨own_keep h.own hb (Nat.le_refl _), (hb.block _ (Array.getElem?_eq_some_iff.1 h.box).1).trans h.box, (hb.block _ (Array.getElem?_eq_some_iff.1 h.res).1).trans h.res, h.bel.trans (hb.mono h.bel.size)⟩
theorem RFS.cells {w x : World} {base sp prod seq : Int} {v : Value} {L : List Rc} (h : RFS w base sp prod seq v L x) :
    x.cell? ⟨w.heap.size + 1, 0, none⟩ = some (.int .i64 base) ∧ x.cell? ⟨w.heap.size + 1, 1, none⟩ = some (.int .i64 sp) ∧ x.cell? ⟨w.heap.size + 1, 2, none⟩ = some (.int .i64 prod) ∧ x.cell? ⟨w.heap.size + 1, 3, none⟩ = some (.int .i64 seq) ∧ x.cell? ⟨w.heap.size + 1, 4, none⟩ = some v ∧ w.heap.size + 1 < x.heap.size ∧ ∀ i, x.frozen? ⟨w.heap.size + 1, i, none⟩ = false := by
  have hc : ∀ j, x.cell? ⟨w.heap.size + 1, j, none⟩ = _ := fun j => cell_of_row _ (w.heap.size + 1) j _ 61 (0, 0) h.box
  exact ⟨by rw [hc]; rfl, by rw [hc]; rfl, by rw [hc]; rfl, by rw [hc]; rfl, by rw [hc]; rfl, (Array.getElem?_eq_some_iff.1 h.box).1, fun i => by simp [World.frozen?, h.box]⟩
/-- Behind the append, and the store of the new row. -/
theorem RFS.grow {w x y : World} {base sp prod seq : Int} {v v' : Value} {L : List Rc} {r : Rc} (h : RFS w base sp prod seq v L x) (hb : Below (w.heap.size + 2) x y) (hown : y.ownsRow (w.heap.size + 2) 48 6 v' (L ++ [r]).length (rcv (L ++ [r]))) : RFS w base sp prod seq v' (L ++ [r]) (y.setCell ⟨w.heap.size + 1, 4, none⟩ v') := by
  have hbx : y.heap[w.heap.size + 1]? = _ := (hb.block (w.heap.size + 1) (by omega)).trans h.box
  have ho : ∀ j, j ≠ w.heap.size + 1 → (y.setCell ⟨w.heap.size + 1, 4, none⟩ v').heap[j]? = y.heap[j]? := by
    intro j hj
    unfold World.setCell
    simp [Array.getElem?_modify, Ne.symm hj]
  refine ⟨?_, by rw [setCell_heap hbx]; rfl, by rw [ho _ (by omega), hb.block w.heap.size (by omega)]; exact h.res, (h.bel.trans (hb.mono (by omega))).setCell (p := ⟨w.heap.size + 1, 4, none⟩) (by show _ ≤ w.heap.size + 1; omega) _⟩
  rcases hown.2 with ⟨e, e0⟩ | ⟨g, cap, cur, e, hB, hg, r⟩
  · simp at e0
  · exact ⟨hown.1, .inr ⟨g, cap, cur, e, hB, by rw [ho _ (by omega)]; exact hg, r⟩⟩
theorem rfs_cell4 {w x y : World} {base sp prod seq : Int} {v : Value} {L : List Rc} (h : RFS w base sp prod seq v L x) (hb : Below (w.heap.size + 2) x y) : y.cell? ⟨w.heap.size + 1, 4, none⟩ = some v ∧ y.frozen? ⟨w.heap.size + 1, 4, none⟩ = false ∧ w.heap.size + 1 < y.heap.size := by
  obtain ⟨_, _, _, _, c4, cz, cf⟩ := RFS.cells h
  exact ⟨(hb.cell (p := ⟨w.heap.size + 1, 4, none⟩) (by show w.heap.size + 1 < _; omega)).trans c4, (hb.frozen (p := ⟨w.heap.size + 1, 4, none⟩) (by show w.heap.size + 1 < _; omega)).trans (cf 4), Nat.lt_of_lt_of_le cz hb.size⟩
/-- What Fresh tells. -/
def FrE (base prod seq : Int) (rs : List Rc) (w : World) (e : Ending) (z : World) : Prop := Below w.heap.size w z ∧
  ((∃ q : Int, q ≠ 0 ∧ e = .returned (.tuple #[.agg #[.int .i64 0, .int .i64 0, .int .i64 0, .int .i64 0, .slice none 0 0], .int .i64 q])) ∨
   ∃ a c, e = .returned (.tuple #[.agg #[.int .i64 base, .int .i64 (rs.length : Int), .int .i64 prod, .int .i64 seq, .slice a rs.length c], .int .i64 0]) ∧ z.ownsRow w.heap.size 48 6 (.slice a rs.length c) rs.length (rcv (numL rs)))
theorem own_setRow {z : World} {B e size n R : Nat} {v : Value} {xs : List Value} {cs : Array Value} (h : z.ownsRow B e size v n xs) (hR : R < B) : (z.setRow R cs).ownsRow B e size v n xs := by
  refine ⟨h.1, ?_⟩
  rcases h.2 with q | ⟨g, cap, cur, e1, hB, hg, r⟩
  · exact .inl q
  · exact .inr ⟨g, cap, cur, e1, hB, by rw [setRow_other z R g cs (by omega)]; exact hg, r⟩
set_option maxHeartbeats 1600000 in
set_option maxRecDepth 100000 in
theorem fresh_any (base prod seq : Int) (a : Option Addr) (cap : Nat) (rs : List Rc) (w : World) (hr : RRow w a rs) (hl1 : 1 ≤ rs.length) (hl : rs.length ≤ 2) :
    Calls Try.prog 39 #[.int .i64 base, .int .i64 prod, .int .i64 seq, .slice a rs.length cap] w fun e w' => FrE base prod seq rs w e w' := by
  have hone : ¬ (rs.length : Int) < 1 := by omega
  have hsp : max 1 (rs.length : Int) = (rs.length : Int) := by omega
  have hsp2 : max (rs.length : Int) 1 = (rs.length : Int) := by omega
  have HCK : Hid (∀ x a' c', RRow x a' (numL rs) → Calls Try.prog 53 #[.agg #[.int .i64 base, .int .i64 (rs.length : Int), .int .i64 prod, .int .i64 seq, .slice a' rs.length c']] x fun e w' => CbE (numL rs) e ∧ Below x.heap.size x w') := by
    intro x a' c' h2
    have := checkBatch_l base (rs.length : Int) prod seq a' c' (numL rs) x h2 (by rw [numL_len]; omega)
    rw [numL_len] at this
    exact this
  have HR0 : Hid (RRow w a rs) := hr
  obtain ⟨F, HF⟩ : ∃ F : Nat → List Rc, Hid (∀ k, (numL rs).take k = F k) := ⟨_, fun _ => rfl⟩
  have HFs : Hid (∀ k, k < rs.length → F (k + 1) = F k ++ [num (rs.getD k rz) k]) := fun k hk => by rw [← HF.out, ← HF.out]; exact num_take rs k hk
  have HFl : Hid (∀ k, k ≤ rs.length → (F k).length = k) := fun k hk => by rw [← HF.out, List.length_take, numL_len]; omega
  have HFa : Hid (F rs.length = numL rs) := by show _ = _; rw [← HF.out, List.take_of_length_le (by rw [numL_len]; omega)]
  have HF0 : Hid (F 0 = []) := by show _ = _; rw [← HF.out]; rfl
  clear hr HF
  go_enter Try.func39, Try.ntmps39
  go_wp2_with fail
  go_loopw [11] (fun i x => ∃ (k : Nat) (v : Value), k ≤ rs.length ∧ i = .int .i64 k ∧ RFS w base (rs.length : Int) prod seq v (F k) x) (fun i _ => rs.length - (intOf i).toNat)
  case atStart => exact ⟨0, _, by omega, rfl, by rw [HF0.out]; exact RFS.new w base (rs.length : Int) prod seq⟩
  case round =>
    obtain ⟨k, v, hk, rfl, hS⟩ := hrel
    have hfk := HFl.out k hk
    obtain ⟨av', cv', rfl, hrv, hnv, hlv, hmv⟩ := owns_rrow hS.own
    obtain ⟨c0, c1, c2, c3, c4, cz, cf⟩ := RFS.cells hS
    by_cases hlt : k < rs.length
    · have hltI : (k : Int) < (rs.length : Int) := by omega
      have HFk : Hid (F (k + 1) = F k ++ [num (rs.getD k rz) k]) := HFs.out k hlt
      have HS : Hid (RFS w base (rs.length : Int) prod seq (.slice av' k cv') (F k) wr) := by have h2 := hS; rw [hfk] at h2; exact h2
      rw [hfk] at c4
      obtain ⟨b', off, rfl, z0, z1, z2, z3, z4, z5⟩ := (RRow.below HR0.out hS.bel) k hlt
      have hbz := World.block_lt_of_cell? _ _ z0
      simp only at hbz
      have hz2 : w.heap.size + 2 ≤ wr.heap.size := by omega
      clear hS hrv
      unfold num at HFk
      generalize rs.getD k rz = r at *
      obtain ⟨hk', kk, hv, v, t, o⟩ := r
      simp only at z0 z1 z2 z3 z4 z5 HFk
      have HRN : Hid (∀ o : Obj, RRow ((wr.alloc o).alloc (.cells #[.bool hk', .string kk, .bool hv, .string v, .int .i64 t, .int .i64 (k : Int)] 48)) (some ⟨wr.heap.size + 1, 0, none⟩) [⟨hk', kk, hv, v, t, (k : Int)⟩]) := fun o => by have h2 := rrow_blk (r := ⟨hk', kk, hv, v, t, (k : Int)⟩) (heap_alloc_new (wr.alloc o) (.cells #[.bool hk', .string kk, .bool hv, .string v, .int .i64 t, .int .i64 (k : Int)] 48)); rw [show (wr.alloc o).heap.size = wr.heap.size + 1 by simp] at h2; exact h2
      have HT2 : Hid (∀ o1 o2, Below wr.heap.size wr ((wr.alloc o1).alloc o2)) := fun o1 o2 => (below_box o1).trans ((below_box o2).mono (by simp))
      have HK : Hid ((F k).length = k) := hfk
      go_wp2_with (at_builtin; refine wpList_app_rec (by rfl) _ _ rfl (w.heap.size + 2) (.slice av' k cv') (F k) [⟨hk', kk, hv, v, t, (k : Int)⟩] rfl (RFS.below HS.out (HT2.out _ _)).own (by simp; omega) _ 1 1 rfl rfl (HRN.out _) (by rw [HK.out]; simp; omega) ?_; intro v5 w5 hown5 hg5; have hb5 : Below (w.heap.size + 2) _ w5 := own_bel' (Below.refl _ _) (by simp; omega) hg5 (fun x hx => (HS.out.own.lt x hx).1); have HG : Hid (RFS w base (rs.length : Int) prod seq v5 (F k ++ [⟨hk', kk, hv, v, t, (k : Int)⟩]) (w5.setCell ⟨w.heap.size + 1, 4, none⟩ v5)) := RFS.grow (RFS.below HS.out (HT2.out _ _)) hb5 hown5; clear c0 c1 c2 c3 c4 cz cf z0 z1 z2 z3 z4 z5; obtain ⟨y4, yf, yz⟩ := rfs_cell4 (RFS.below HS.out (HT2.out _ _)) hb5; obtain ⟨a5, k5, rfl⟩ := owns_rslice hown5; clear hown5 hb5 hg5)
      exact ⟨⟨k + 1, _, by omega, by go_num, by rw [HFk.out]; have h2 := HG.out; rw [show (F k ++ [(⟨hk', kk, hv, v, t, (k : Int)⟩ : Rc)]).length = k + 1 by simp [hfk]] at h2; exact h2⟩, by simp [intOf]; omega⟩
    · obtain rfl : k = rs.length := by omega
      rw [hfk] at hS c4
      rw [HFa.out] at hS hrv
      have HS : Hid (RFS w base (rs.length : Int) prod seq (.slice av' rs.length cv') (numL rs) wr) := hS
      have HRR : Hid (RRow wr av' (numL rs)) := hrv
      clear hS hrv
      go_wp2_with (first
        | (go_at_call 53; refine (HCK.out _ _ _ HRR.out).mono ?_; rintro e w3 ⟨⟨q, rfl, _⟩, hb3⟩; have HS3 : Hid (RFS w base (rs.length : Int) prod seq (.slice av' rs.length cv') (numL rs) w3) := RFS.below HS.out hb3; clear c0 c1 c2 c3 c4 cz cf hb3; obtain ⟨c0, c1, c2, c3, c4, cz, cf⟩ := RFS.cells HS3.out; rcases Decidable.em (q = 0) with rfl | hq0)
        | (have _t := HS3; refine wpList_store_row rfl 61 _ _ rfl w.heap.size #[.int .i64 base, .int .i64 (rs.length : Int), .int .i64 prod, .int .i64 seq, .slice av' rs.length cv'] rfl rfl 61 _ HS3.out.res Try.info61t rfl (bat_one _ _ _ _ _ _ _) ?_)
        | (have _t := HS3; refine wpList_store_row rfl 61 _ _ rfl w.heap.size #[.int .i64 0, .int .i64 0, .int .i64 0, .int .i64 0, .slice none 0 0] rfl rfl 61 _ HS3.out.res Try.info61t rfl (bat_one _ _ _ _ _ _ _) ?_))
      · refine bodyPost_ret (v := .tuple #[.agg #[.int .i64 base, .int .i64 (rs.length : Int), .int .i64 prod, .int .i64 seq, .slice av' rs.length cv'], .int .i64 0]) ?_ rfl ⟨below_setRow HS3.out.bel (Nat.le_refl _) _, .inr ⟨av', cv', rfl, ?_⟩⟩
        · exact results_bat (p := 8) (u := 9) (by rfl) _ _ w.heap.size _ _ (by rfl) (by rfl) rfl (setRow_heap _ _ _ _ _ _ HS3.out.res)
        · have h5 := own_setRow (cs := #[.int .i64 base, .int .i64 (rs.length : Int), .int .i64 prod, .int .i64 seq, .slice av' rs.length cv']) (own_keep HS3.out.own (Below.refl _ _) (show w.heap.size + 1 ≤ w.heap.size + 2 by omega)) (show w.heap.size < w.heap.size + 1 by omega)
          rw [numL_len] at h5
          exact own_keep h5 (Below.refl _ _) (by omega)
      · refine bodyPost_ret (v := .tuple #[.agg #[.int .i64 0, .int .i64 0, .int .i64 0, .int .i64 0, .slice none 0 0], .int .i64 q]) ?_ rfl ⟨below_setRow HS3.out.bel (Nat.le_refl _) _, .inl ⟨q, hq0, rfl⟩⟩
        exact results_bat (p := 8) (u := 9) (by rfl) _ _ w.heap.size _ _ (by rfl) (by rfl) rfl (setRow_heap _ _ _ _ _ _ HS3.out.res)
end Go.Proofs.Ytnnljdnaipjoiaa
