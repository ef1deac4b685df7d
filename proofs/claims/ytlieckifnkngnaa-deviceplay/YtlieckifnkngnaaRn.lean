/- The document's device: New. -/
import Derived.Test.YtlieckifnkngnaaRb
import Derived.Deep.OwnRows
namespace Go.Proofs.Ytlieckifnkngnaa
set_option linter.unusedSimpArgs false
set_option linter.unusedVariables false
open Go.RowKit Go.MapKept
theorem refNew_bad (n : Int) (w : World) (hn : n < 1 ∨ 65536 < n) :
    Calls Try.prog 14 #[.int .i64 n] w fun e w' => e = .returned (.tuple #[.pointer none, .int .i64 1]) ∧ w' = w := by
  by_cases h1 : n < 1
  · go_enter Try.func14, Try.ntmps14
    go_wp2
    go_ret2
    exact ⟨rfl, rfl⟩
  · have h2 : 65536 < n := by omega
    go_enter Try.func14, Try.ntmps14
    go_wp2
    go_ret2
    exact ⟨rfl, rfl⟩
theorem made_cells (n : Nat) : madeCells #[Value.int .u8 0] n = (cv (List.replicate n 0)).toArray := by
  apply Array.ext'
  simp only [madeCells, cv, List.map_replicate]
  rw [List.eq_replicate_iff]
  refine ⟨by simp, ?_⟩
  intro b hb
  simp [Nat.mod_one] at hb
  exact hb.2.symm
theorem new_cell {X : World} {v u : Value} {t j : Nat} (hj : [v][j]? = some u) : (X.alloc (.cells #[v] t)).cell? ((⟨X.heap.size, 0, none⟩ : Addr).add j) = some u := by
  have : j = 0 := by
    cases j with
    | zero => rfl
    | succ j => simp at hj
  subst this
  rw [Addr.add_lit, cell_of_row _ _ _ _ _ _ (heap_alloc_new X _)]
  simpa using hj
theorem byt_made {w : World} {b : Nat} (h : w.heap[b]? = some (.cells (cv zeros).toArray 5 (0, 0))) : Byt w [b] (.slice (some ⟨b, 0, none⟩) 512 512) zeros := by
  refine ⟨b, 512, _, _, rfl, by simp, h, fun i hi => ⟨b, 0, rfl, ?_, bv_zero_ok.2 i⟩, zeros_len⟩
  rw [cell_of_row _ _ _ _ _ _ h, Nat.zero_add, List.getElem?_toArray]
  exact cv_get zeros i hi
theorem wp_make512 {o : Oper} {a : Act} {K : Act → World → Prop} {Q : Exit → Act → World → Prop} (w : World) (l c : Operand) (hop : o.op = .makeSlice 39 l c) (hl : a.eval l = .int .i64 512) (hc : a.eval c = .int .i64 512)
    (h : K (a.put o.dst (.slice (some ⟨w.heap.size, 0, none⟩) 512 512)) (w.alloc (.cells (cv zeros).toArray 5))) : o.wp Try.prog a w K Q := by
  have hmk : (Instr.makeSlice 39 (.int .i64 512) (.int .i64 512)).run Try.prog w = .ok (.slice (some ⟨w.heap.size, 0, none⟩) 512 512) (w.alloc (.cells (madeCells #[.int .u8 0] 512) 5)) := run_make_row' (P := Try.prog) 39 5 (.int .u8 0) 1 Try.underlying39 Try.info5 rfl .i64 .i64 512 (by decide) (by decide) w
  rw [made_cells] at hmk
  unfold Oper.wp execOp
  simp only [hop, hl, hc, hmk, Sem.run_bind, Sem.run_pure, Result.andThen_ok, Oper.upon]
  exact h
set_option maxRecDepth 100000 in
set_option maxHeartbeats 2000000 in
theorem refNew_any (n : Nat) (hn1 : 1 ≤ n) (hn2 : n ≤ 65536) (w : World) :
    Calls Try.prog 14 #[.int .i64 (n : Int)] w fun e w' => ∃ q gB cB gP cP bs ps rs G, e = .returned (.tuple #[.pointer (some ⟨q, 0, none⟩), .int .i64 0]) ∧ RefAt w.heap.size w' q gB cB gP cP bs ps rs G (fresh n fun _ => zeros) (-1) ∧ Below w.heap.size w w' := by
  have hnI : (1 : Int) ≤ (n : Int) := by omega
  have hnJ : (n : Int) ≤ 65536 := by omega
  have hnK : ¬ (n : Int) < 1 := by omega
  have HOK : Hid (fresh n fun _ => zeros).Ok := fresh_ok hn1 hn2 fun k => bv_zero_ok
  go_enter Try.func14, Try.ntmps14
  go_wp2
  go_loopw [5] (fun i wr => ∃ (k : Nat) (vB vP : Value) (bs : List Value) (G : List Nat), k ≤ n ∧ i = .int .i64 (k : Int) ∧ Raw w.heap.size wr w.heap.size vB vP bs (List.replicate k (.slice none 0 0)) k k 0 (-1) ∧ (∀ j, j < k → Byt wr G (bs.getD j undef) zeros) ∧ (∀ x ∈ G, w.heap.size ≤ x ∧ x < wr.heap.size) ∧ Below w.heap.size w wr) (fun i _ => n - (iof i).toNat)
  case atStart =>
    refine ⟨0, .slice none 0 0, .slice none 0 0, [], [], by omega, rfl, ⟨heap_alloc_new w _, owns_nil _ _ _, owns_nil _ _ _, Nat.le_refl _⟩, fun j hj => by omega, by simp, (Below.refl _ _).alloc (Nat.le_refl _) _⟩
  case round =>
    obtain ⟨k, vB, vP, bs, G, hk, rfl, hR, hby, hG, hbel⟩ := hrel
    have hsz := hbel.size
    by_cases hkn : k < n
    · have hkI : (k : Int) < (n : Int) := by omega
      have hc := hR.c
      have c0 := hc.1
      go_wp2
      refine wp_region_lat (fun x => x.cell? ⟨w.heap.size, 0, none⟩ = some vB) 10 (by kernel_rfl) c0 (fun hHeld => ?_)
      refine lat_take 0 (v := ?_) rfl (by kernel_rfl) (by kernel_rfl) (by kernel_rfl) (by kernel_rfl) (fun _ _ _ h => h) (by rfl) ?_ (by assumption) ?_
      rotate_left
      · (intro w hSw; (try dsimp only at hSw); go_simp <;> with_reducible rfl)
      try simp only [Act.put, List.setIfInBounds_toArray, List.set_cons_zero, List.set_cons_succ]
      refine lat_take 1 (v := ?_) rfl (by kernel_rfl) (by kernel_rfl) (by kernel_rfl) (by kernel_rfl) (fun _ _ _ h => h) (by rfl) ?_ (by assumption) ?_
      rotate_left
      · (intro w hSw; (try dsimp only at hSw); go_simp <;> with_reducible rfl)
      try simp only [Act.put, List.setIfInBounds_toArray, List.set_cons_zero, List.set_cons_succ]
      refine lat_take 2 (v := ?_) rfl (by kernel_rfl) (by kernel_rfl) (by kernel_rfl) (by kernel_rfl) (fun _ _ _ h => h) (by rfl) ?_ (by assumption) ?_
      rotate_left
      · (intro w hSw; (try dsimp only at hSw); go_simp <;> with_reducible rfl)
      try simp only [Act.put, List.setIfInBounds_toArray, List.set_cons_zero, List.set_cons_succ]
      refine lat_take 3 (v := ?_) rfl (by kernel_rfl) (by kernel_rfl) (by kernel_rfl) (by kernel_rfl) (fun _ _ _ h => h) (by rfl) ?_ (by assumption) ?_
      rotate_left
      · (intro w hSw; (try dsimp only at hSw); go_simp <;> with_reducible rfl)
      try simp only [Act.put, List.setIfInBounds_toArray, List.set_cons_zero, List.set_cons_succ]
      refine lat_take 4 (v := ?_) rfl (by kernel_rfl) (by kernel_rfl) (by kernel_rfl) (by kernel_rfl) (fun _ _ _ h => h) (by rfl) ?_ (by assumption) ?_
      rotate_left
      · (intro w hSw; (try dsimp only at hSw); go_simp <;> with_reducible rfl)
      try simp only [Act.put, List.setIfInBounds_toArray, List.set_cons_zero, List.set_cons_succ]
      refine lat_one 5 rfl (by kernel_rfl) (by decide) (by rfl) (fun K hK => ?_)
      refine wp_make512 wr.drew _ _ rfl rfl rfl ?_
      have hR2 : Raw w.heap.size (wr.drew.alloc (.cells (cv zeros).toArray 5)) w.heap.size vB vP bs (List.replicate k (.slice none 0 0)) k k 0 (-1) := hR.blk fun x hx => heap_alloc_lt (w := wr.drew) hx
      have hB2 := heap_alloc_new wr.drew (.cells (cv zeros).toArray 5)
      have z2 := size_alloc wr.drew (.cells (cv zeros).toArray 5)
      have hb2 : Below wr.heap.size wr (wr.drew.alloc (.cells (cv zeros).toArray 5)) := ⟨rfl, rfl, rfl, by rw [z2]; show _ ≤ wr.heap.size + 1; omega, fun x hx => heap_alloc_lt (w := wr.drew) hx⟩
      obtain ⟨w2, HW2⟩ : ∃ w2, Hid (wr.drew.alloc (.cells (cv zeros).toArray 5) = w2) := ⟨_, rfl⟩
      rw [HW2.out] at hR2 hB2 z2 hb2 ⊢
      have hB2' : w2.heap[wr.heap.size]? = some (.cells (cv zeros).toArray 5 (0, 0)) := hB2
      have HZ2 : Hid (w2.heap.size = wr.heap.size + 1) := z2
      have hle2 : w.heap.size ≤ w2.heap.size := by have := HZ2.out; omega
      clear hB2 z2
      refine hK.out _ _ hR2.c.1 (fun hHeld2 => ?_)
      clear hK hHeld
      try simp only [Act.put, List.setIfInBounds_toArray, List.set_cons_zero, List.set_cons_succ]
      refine lat_one 6 rfl (by kernel_rfl) (by decide) (by rfl) (fun K hK => ?_)
      go_simp
      refine hK.out _ _ ((World.cell?_of_block (w := w2) (heap_alloc_lt hR2.lt)).trans hHeld2) (fun hHeld3 => ?_)
      clear hK hHeld2
      try simp only [Act.put, List.setIfInBounds_toArray, List.set_cons_zero, List.set_cons_succ]
      refine lat_one 7 rfl (by kernel_rfl) (by decide) (by rfl) (fun K hK => ?_)
      obtain ⟨i39, hi39, hy0, hy1, hy2⟩ := info_parts rinfo39
      refine wp_append_lies (w2.alloc _) _ _ 61 (by rfl) w.heap.size 39 i39 (.slice none 0 0) 1 24 Try.underlying61 hi39 hy0 hy1 hy2 rfl (by decide) vB k bs (by rfl) (hR2.bo.alloc _) ⟨w2.heap.size, 0, none⟩ 1 1 [.slice (some ⟨wr.heap.size, 0, none⟩) 512 512] (by rfl) (by rfl) (fun j u hj => ?_) (by simp [Value.oneCell']) (by decide) (by unfold maxLen; omega) (by omega) (by rw [size_alloc]; omega) (w2.heap.size + 1) (size_alloc _ _) ?_
      · have : j = 0 := by
          cases j with
          | zero => rfl
          | succ j => simp at hj
        subst this
        rw [Addr.add_lit, cell_of_row _ _ _ _ _ _ (heap_alloc_new w2 _)]
        simpa using hj
      intro g4 cap4 w4 ho4 hg4 hat4 hlt4
      have s4 := hg4.size
      rw [size_alloc] at s4
      have hlt2 := hR2.lt
      refine hK.out _ _ ((hg4.cell_far _ (by rw [size_alloc]; show w.heap.size < _; omega) hR2.sep.1).trans hHeld3) (fun hHeld4 => ?_)
      have e4 : w4.heap[w.heap.size]? = w2.heap[w.heap.size]? := (hg4.block _ (by rw [size_alloc]; omega) hR2.sep.1).trans (heap_alloc_lt hlt2)
      have hfr : w4.frozen? ⟨w.heap.size, 0, none⟩ = false := frozen_of_row _ _ _ _ _ (e4.trans hR2.cells)
      clear hK hHeld3
      try simp only [Act.put, List.setIfInBounds_toArray, List.set_cons_zero, List.set_cons_succ]
      refine lat_take 8 (v := ?_) rfl (by kernel_rfl) (by kernel_rfl) (by kernel_rfl) (by kernel_rfl) (fun _ _ _ h => h) (by rfl) ?_ (by assumption) ?_
      rotate_left
      · (intro w hSw; (try dsimp only at hSw); go_simp <;> with_reducible rfl)
      try simp only [Act.put, List.setIfInBounds_toArray, List.set_cons_zero, List.set_cons_succ]
      refine lat_take 9 (v := ?_) rfl (by kernel_rfl) (by kernel_rfl) (by kernel_rfl) (by kernel_rfl) (fun _ _ _ h => h) (by rfl) ?_ (by assumption) ?_
      rotate_left
      · (intro w hSw; (try dsimp only at hSw); go_simp <;> with_reducible rfl)
      try simp only [Act.put, List.setIfInBounds_toArray, List.set_cons_zero, List.set_cons_succ]
      refine lat_last 10 rfl (by kernel_rfl) (by decide) (by kernel_rfl) (by rfl) (fun K hK => ?_)
      go_simp
      refine hK.out _ _ ?_
      clear hK
      have hR5 := hR2.addB ho4 hg4 hat4
      have hc5 := hR5.c.2.1
      have hf5 := hR5.fr 1
      have hle5 : w.heap.size ≤ (w4.setCell ⟨w.heap.size, 0, none⟩ (.slice (some ⟨g4, 0, none⟩) (k + 1) cap4)).heap.size := by simp [World.setCell]; omega
      obtain ⟨X, HX⟩ : ∃ X, Hid (w4.setCell ⟨w.heap.size, 0, none⟩ (.slice (some ⟨g4, 0, none⟩) (k + 1) cap4) = X) := ⟨_, rfl⟩
      rw [HX.out] at hR5 hc5 hf5 hle5 ⊢
      obtain ⟨i61, hi61, hx0, hx1, hx2⟩ := info_parts rinfo61
      go_wp2_with (at_builtin; refine wpList_append_lies (X.alloc _) (by rfl) _ _ 62 (by rfl) w.heap.size 61 i61 (.slice none 0 0) 1 24 Try.underlying62 hi61 hx0 hx1 hx2 rfl (by decide) vP k (List.replicate k (.slice none 0 0)) (by rfl) (hR5.po.alloc _) ⟨X.heap.size, 0, none⟩ 1 1 [.slice none 0 0] (by rfl) (by rfl) (fun j u hj => new_cell hj) (by simp [Value.oneCell']) (by decide) (by unfold maxLen; omega) (by omega) (by rw [size_alloc]; omega) (X.heap.size + 1) (size_alloc _ _) ?_; intro g7 cap7 w7 ho7 hg7 hat7 hlt7; have e7 := (hg7.block w.heap.size (by rw [size_alloc]; have := hR5.lt; omega) hR5.sep.2.1).trans (heap_alloc_lt hR5.lt); have c7 := (cell_blk (i := 1) e7).trans hc5; have f7 : w7.frozen? ⟨w.heap.size, 1, none⟩ = false := frozen_of_row _ _ _ _ _ (e7.trans hR5.cells))
      obtain ⟨hRn, hBn, h5⟩ := hR2.both hle2 ho4 hg4 hat4 ho7 (by rw [HX.out]; exact hg7) (by rw [HX.out]; exact hat7)
      have hz2 := HZ2.out
      have hzn := hBn.size
      have hlb : bs.length = k := by have := hR.bo.1; omega
      have hbw : Below w.heap.size w (w7.setCell ⟨w.heap.size, 1, none⟩ (.slice (some ⟨g7, 0, none⟩) (k + 1) cap7)) := (hbel.trans (hb2.mono hsz)).trans hBn
      refine ⟨⟨k + 1, _, _, _, wr.heap.size :: G, by omega, by go_num, hRn, fun j hj => ?_, fun x hx => ?_, hbw⟩, by simp [iof]; omega⟩
      · rw [getD_snoc, hlb]
        by_cases hjk : j < k
        · rw [if_pos hjk]
          exact ((hby j hjk).five (w' := w2) (fun x cs fr hx => hb2.block x (lt_of_blk hx)) (fun _ y => y)).five h5 (fun x hx => by simp [hx])
        · rw [if_neg hjk, if_pos (by omega)]
          exact (byt_made hB2').five h5 (fun x hx => by simp at hx; simp [hx])
      · simp only [List.mem_cons] at hx
        rcases hx with rfl | hx
        · exact ⟨hsz, by omega⟩
        · have := hG x hx
          exact ⟨this.1, by omega⟩
    · obtain rfl : k = n := by omega
      obtain ⟨gB, cB, gP, cP, hRef, _, _⟩ := hR.done HOK.out hby hG
      clear hR hby hG
      go_wp2
      go_ret2
      exact ⟨_, gB, cB, gP, cP, bs, _, _, _, rfl, hRef, hbel⟩
end Go.Proofs.Ytlieckifnkngnaa
