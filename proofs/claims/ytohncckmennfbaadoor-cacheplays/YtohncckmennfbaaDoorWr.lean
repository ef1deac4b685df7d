/- Read and Write. -/
import Derived.Test.YtohncckmennfbaaDoorRd
import Derived.StillTailTactics
namespace Go.Proofs.YtohncckmennfbaaDoor
set_option linter.unusedSimpArgs false
set_option linter.unusedVariables false
open Go.RowKit Go.MapKept
open Go.ChangeMaps (setBlock heap_setBlock_same heap_setBlock_other)
/-- What is read of a block. -/
def Dv.cur (d : Dv) (k : Nat) : List Nat := d.at k (d.pend k).length
theorem Dv.Ok.cur {d : Dv} (h : d.Ok) (k : Nat) : (d.cur k).length = 512 ∧ ∀ i, (d.cur k).getD i 0 < 256 := h.at (Nat.le_refl _)
/-- A row of bytes that fills its block. -/
def Full (w : World) (g : Nat) (t : TypeId) (c : List Nat) : Prop := w.heap[g]? = some (.cells (cv c).toArray t (0, 0))
theorem Full.blk {w w' : World} {g t : Nat} {c : List Nat} (h : Full w g t c) (e : w'.heap[g]? = w.heap[g]?) : Full w' g t c := e.trans h
theorem Full.lt {w : World} {g t : Nat} {c : List Nat} (h : Full w g t c) : g < w.heap.size := (Array.getElem?_eq_some_iff.1 h).1
theorem Full.below {w w' : World} {g t : Nat} {c : List Nat} (h : Full w g t c) (hb : Below w.heap.size w w') : Full w' g t c := h.blk (hb.block g h.lt)
theorem Full.keeps {w w' : World} {g t : Nat} {c : List Nat} {F : List Nat} (h : Full w g t c) (k : Keeps F w w') (hg : g ∉ F) : Full w' g t c := h.blk (k.block g h.lt hg)
theorem Full.row {w : World} {g t : Nat} {c : List Nat} (h : Full w g t c) (hb : ∀ i, c.getD i 0 < 256) : Row w (some ⟨g, 0, none⟩) c := by
  intro i hi
  refine ⟨g, 0, rfl, ?_, hb i⟩
  rw [cell_of_row _ g (0 + i) (cv c).toArray t (0, 0) h]
  simpa using cv_get c i hi
theorem Full.range {w : World} {g t : Nat} {c : List Nat} (h : Full w g t c) : w.rangeAt g 0 (cv c) := by
  intro j v hj
  rw [cell_of_row _ g (0 + j) (cv c).toArray t (0, 0) h]
  simpa using hj
set_option maxRecDepth 100000 in
theorem read_ok (p fb pb tb : Nat) (d : Dv) (k : Nat) (w : World) (h : DevIs w p fb pb tb d) (hk : k < d.n) :
    Calls Tryd.prog 37 #[.pointer (some ⟨p, 0, none⟩), .int .i64 (k : Int)] w fun e w' => ∃ g, e = .returned (.tuple #[.slice (some ⟨g, 0, none⟩) 512 512, .int .i64 0]) ∧ Full w' g 83 (d.cur k) ∧ w.heap.size ≤ g ∧ Below w.heap.size w w' := by
  obtain ⟨c0, c1, c2, c3, c4, c5, c6⟩ := h.c
  have hz := (zero_of_info zero81).1
  unfold bv at hz
  have hT := h.lookT k hk w rfl
  have hh : hasB d.n (k : Int) = true := by simp [hasB]; omega
  have hst := state_any p fb pb tb d k (d.pend k).length w h hk (Nat.le_refl _)
  obtain ⟨hl, _⟩ := h.ok.cur k
  have HL : Hid ((d.cur k).length = 512) := hl
  have hs := size81 (d.cur k) hl
  have hst2 : Hid (Calls Tryd.prog 45 #[.pointer (some ⟨p, 0, none⟩), .int .i64 (k : Int), .int .i64 ((d.pend k).length : Int)] w fun e w' => e = .returned (.agg (cv (d.cur k)).toArray) ∧ Below w.heap.size w w') := hst
  have HH : Hid (hasB d.n (k : Int) = true) := hh
  clear hst hh hl
  go_enter Tryd.func37, Tryd.ntmps37
  go_wp2_with (first
    | (go_at_call 57; refine (has_any p fb pb tb d _ _ h).mono ?_; rintro e w1 ⟨rfl, hw⟩; subst w1; rw [HH.out])
    | (go_at_call 45; refine Calls.mono hst2.out ?_; rintro e w1 ⟨rfl, hb⟩; have g0 := heap_alloc_new w1 (.cells (cv zeros).toArray 83))
    | (refine wpList_store_row rfl 83 _ _ rfl w1.heap.size (cv (d.cur k)).toArray rfl rfl 83 (cv zeros).toArray g0 hs (by rw [List.size_toArray, List.size_toArray, cv_length, cv_length, zeros_len, HL.out]) (cv_all _) ?_))
  go_ret2
  refine ⟨w1.heap.size, rfl, setRow_heap _ _ _ _ _ _ g0, hb.size, ?_⟩
  have h1 : Below w.heap.size w (w1.alloc (.cells (cv zeros).toArray 83)) := hb.alloc hb.size _
  exact h1.trans ⟨rfl, rfl, rfl, by simp, fun x hx => setRow_other _ _ _ _ (by have := hb.size; omega)⟩
theorem read_bad (p fb pb tb : Nat) (d : Dv) (k : Int) (w : World) (h : DevIs w p fb pb tb d) (hk : hasB d.n k = false) :
    Calls Tryd.prog 37 #[.pointer (some ⟨p, 0, none⟩), .int .i64 k] w fun e w' => e = .returned (.tuple #[.slice none 0 0, .int .i64 1]) ∧ w' = w := by
  have HH : Hid (hasB d.n k = false) := hk
  clear hk
  go_enter Tryd.func37, Tryd.ntmps37
  go_wp2_with (first
    | (go_at_call 57; refine (has_any p fb pb tb d _ _ h).mono ?_; rintro e w1 ⟨rfl, hw⟩; subst w1; rw [HH.out]))
  go_ret2
  exact ⟨rfl, rfl⟩
/-- Write's answer, and what it leaves. -/
def Dv.wcode (d : Dv) (k : Int) (len : Nat) : Int := if d.on then (if hasB d.n k && len == 512 then 0 else 1) else 9
def Dv.add (d : Dv) (k : Nat) (c : List Nat) : Dv := { d with pend := fun x => if x = k then d.pend k ++ [c] else d.pend x }
def Dv.wrote (d : Dv) (k : Int) (c : List Nat) : Dv := if d.on && (hasB d.n k && c.length == 512) then d.tick.add k.toNat c else d.tick
theorem write_off (p fb pb tb : Nat) (d : Dv) (k : Int) (v : Value) (w : World) (h : DevIs w p fb pb tb d) (ho : d.ops < 1000000) (hon : d.on = false) :
    Calls Tryd.prog 70 #[.pointer (some ⟨p, 0, none⟩), .int .i64 k, v] w fun e w' => e = .returned (.int .i64 9) ∧ DevIs w' p fb pb tb d.tick ∧ Keeps [p] w w' := by
  have HO : Hid (d.on = false) := hon
  clear hon
  go_enter Tryd.func70, Tryd.ntmps70
  go_wp2_with (go_at_call 59; refine (op_any p fb pb tb d _ h ho).mono ?_; rintro e w1 ⟨rfl, h1, k1⟩; rw [HO.out])
  go_ret
  exact ⟨rfl, h1, k1⟩
theorem write_arg (p fb pb tb : Nat) (d : Dv) (k : Int) (a : Option Addr) (len cap : Nat) (w : World) (h : DevIs w p fb pb tb d) (ho : d.ops < 1000000) (hon : d.on = true) (hk : (hasB d.n k && len == 512) = false) (hl : len ≤ 1000000) :
    Calls Tryd.prog 70 #[.pointer (some ⟨p, 0, none⟩), .int .i64 k, .slice a len cap] w fun e w' => e = .returned (.int .i64 1) ∧ DevIs w' p fb pb tb d.tick ∧ Keeps [p] w w' := by
  have HO : Hid (d.on = true) := hon
  have hn : d.tick.n = d.n := rfl
  cases hb : hasB d.n k with
  | false =>
    have HH : Hid (hasB d.tick.n k = false) := hb
    clear hon hk hb hn
    go_enter Tryd.func70, Tryd.ntmps70
    go_wp2_with (first
      | (go_at_call 59; refine (op_any p fb pb tb d _ h ho).mono ?_; rintro e w1 ⟨rfl, h1, k1⟩; rw [HO.out])
      | (go_at_call 57; refine (has_any p fb pb tb d.tick _ _ h1).mono ?_; rintro e w2 ⟨rfl, hw⟩; subst w2; rw [HH.out]))
    go_ret
    exact ⟨rfl, h1, k1⟩
  | true =>
    have HH : Hid (hasB d.tick.n k = true) := hb
    have hlen : ((len : Int) != 512) = true := by rw [hb] at hk; simp at hk ⊢; omega
    clear hon hk hb hn
    go_enter Tryd.func70, Tryd.ntmps70
    go_wp2_with (first
      | (go_at_call 59; refine (op_any p fb pb tb d _ h ho).mono ?_; rintro e w1 ⟨rfl, h1, k1⟩; rw [HO.out])
      | (go_at_call 57; refine (has_any p fb pb tb d.tick _ _ h1).mono ?_; rintro e w2 ⟨rfl, hw⟩; subst w2; rw [HH.out]))
    go_ret
    exact ⟨rfl, h1, k1⟩
theorem setBlock_other (w : World) (b : Nat) (o : Obj) (k : Nat) (h : k ≠ b) : (setBlock w b o).heap[k]? = w.heap[k]? := by
  simp [Go.ChangeMaps.setBlock, Ne.symm h]
theorem setBlock_same (w : World) (b : Nat) (o : Obj) (h : b < w.heap.size) : (setBlock w b o).heap[b]? = some o := by
  simp [Go.ChangeMaps.setBlock, h]
theorem cell_blk {w w' : World} {b i : Nat} (h : w'.heap[b]? = w.heap[b]?) : w'.cell? ⟨b, i, none⟩ = w.cell? ⟨b, i, none⟩ := World.cell?_of_block (w := w) h
theorem Dv.Ok.add {d : Dv} (h : d.Ok) (ho : ∀ k, (d.pend k).length < d.ops) (k : Nat) (c : List Nat) (hc : c.length = 512) (hb : ∀ i, c.getD i 0 < 256) : (d.add k c).Ok :=
  ⟨h.n1, h.n2, h.ops, h.left, h.base, fun x y hy => by
    simp only [Dv.add] at hy
    split at hy
    · rcases List.mem_append.1 hy with q | q
      · exact h.pend k y q
      · simp at q; subst q; exact ⟨hc, hb⟩
    · exact h.pend x y hy, fun x => by
    simp only [Dv.add]
    split
    · have := ho k; simp; omega
    · exact h.count x⟩
theorem turns_add (d : Dv) (k : Nat) (c : List Nat) (hk : k < d.n) : (d.add k c).turns = put d.turns k (.int .i64 (((d.pend k).length : Int) + 1)) := by
  funext x
  unfold Dv.turns put Dv.add
  by_cases hx : x = k
  · subst hx; simp [hk]
  · simp [hx]
theorem arrayAt81 (w : World) (g : Nat) : (Instr.arrayAt 83 (.slice (some ⟨g, 0, none⟩) 512 512)).run Tryd.prog w = .ok (.pointer (some ⟨g, 0, none⟩)) w := by
  simp [Instr.arrayAt, run_underlying Tryd.underlying83, go_sem]
/-- What stands while the write is laid. -/
def WrS (p g pb tb k L : Nat) (c : List Nat) (w : World) : Prop :=
  w.cell? ⟨p, 2, none⟩ = some (.map (some pb)) ∧ w.cell? ⟨p, 3, none⟩ = some (.map (some tb)) ∧ w.rangeAt g 0 (cv c) ∧
    (Instr.lookup 30 (.map (some tb)) (.int .i64 (k : Int)) false).run Tryd.prog w = .ok (.int .i64 ((L : Int) + 1)) w
theorem wr_facts {w : World} {p fb pb tb g k : Nat} {t : Dv} {c : List Nat} (h : DevIs w p fb pb tb t) (hk : k < t.n) (hcount : ∀ x, (t.pend x).length < t.ops) {ty : Nat} (hc : Full w g ty c) (hl : c.length = 512) (hb : ∀ i, c.getD i 0 < 256) :
    ∃ W2 W3, (Instr.mapUpdate 30 (.map (some tb)) (.int .i64 (k : Int)) (.int .i64 (((t.pend k).length : Int) + 1))).run Tryd.prog w = .ok () W2 ∧ WrS p g pb tb k (t.pend k).length c W2.drew ∧
      (Instr.mapUpdate 73 (.map (some pb)) (.agg #[.int .i64 (k : Int), .int .i64 (((t.pend k).length : Int) + 1)]) (.agg (cv c).toArray)).run Tryd.prog W2.drew = .ok () W3 ∧ WrS p g pb tb k (t.pend k).length c W3 ∧
      DevIs W3 p fb pb tb (t.add k c) ∧ Keeps [pb, tb] w W3 := by
  obtain ⟨c0, c1, c2, c3, c4, c5, c6⟩ := h.c
  obtain ⟨n1, n2, n3⟩ := h.pne
  obtain ⟨m1, m2, m3⟩ := h.ne
  have hlt := h.lt
  obtain ⟨esT, clT, rT, ET, sT⟩ := h.tm.store kbI Tryd.underlying30 k (.int .i64 (((t.pend k).length : Int) + 1))
  obtain ⟨Q, m, hQ, hQ2⟩ := h.pm
  have hQd : MapIs (setBlock w tb (.map esT clT)).drew pb mkP Q m := hQ.blk (setBlock_other _ _ _ _ m3)
  obtain ⟨esP, clP, rP, EP, sP⟩ := hQd.store kbP Tryd.underlying73 (k, (t.pend k).length + 1) (.agg (cv c).toArray)
  have htm2 : MapIs (setBlock w tb (.map esT clT)).drew tb mkI (put t.turns k (.int .i64 (((t.pend k).length : Int) + 1))) (t.n + 1) :=
    ⟨esT, clT, setBlock_same _ _ _ (hlt tb (by simp [fp])), ET, sT⟩
  have hgT : g ≠ tb := fun e => by
    obtain ⟨es, cl, q, _⟩ := h.tm
    unfold Full at hc; rw [e, q] at hc; cases hc
  have hgP : g ≠ pb := fun e => by
    obtain ⟨es, cl, q, _⟩ := hQ
    unfold Full at hc; rw [e, q] at hc; cases hc
  obtain ⟨i0, hi, hz0, hz1, hz2⟩ := info_parts info3
  have hz : ∀ w, (zeroValue 3).run Tryd.prog w = .ok (.int .i64 0) w := fun w => by simp [zeroValue, typeInfo, hi, hz0]
  have lk : ∀ w', w'.heap[tb]? = (setBlock w tb (.map esT clT)).drew.heap[tb]? → (Instr.lookup 30 (.map (some tb)) (.int .i64 (k : Int)) false).run Tryd.prog w' = .ok (.int .i64 (((t.pend k).length : Int) + 1)) w' :=
    htm2.look' kbI Tryd.underlying30 hz k _ (by simp [put])
  have e3 : ∀ x, x ≠ tb → x ≠ pb → (setBlock (setBlock w tb (.map esT clT)).drew pb (.map esP clP)).heap[x]? = w.heap[x]? := fun x a b => (setBlock_other _ _ _ _ b).trans (setBlock_other _ _ _ _ a)
  refine ⟨setBlock w tb (.map esT clT), setBlock (setBlock w tb (.map esT clT)).drew pb (.map esP clP), rT w rfl, ⟨?_, ?_, ?_, lk _ rfl⟩, ?_, ⟨?_, ?_, ?_, lk _ (setBlock_other _ _ _ _ (Ne.symm m3))⟩, ?_, ?_⟩
  · exact (cell_blk (setBlock_other w _ _ _ n3)).trans c2
  · exact (cell_blk (setBlock_other w _ _ _ n3)).trans c3
  · exact (hc.blk (setBlock_other w tb _ g hgT)).range
  · exact rP _ rfl
  · exact (cell_blk (e3 p n3 n2)).trans c2
  · exact (cell_blk (e3 p n3 n2)).trans c3
  · exact (hc.blk (e3 g hgT hgP)).range
  · have hF := h.fm
    obtain ⟨F, mF, hF, hF2⟩ := hF
    refine ⟨(e3 p n3 n2).trans h.cells, ⟨F, mF, hF.blk (e3 fb m2 m1), hF2⟩, ⟨_, _, ⟨esP, clP, setBlock_same _ _ _ (by show pb < (setBlock w tb (.map esT clT)).heap.size; simp [Go.ChangeMaps.setBlock]; exact hlt pb (by simp [fp])), EP, sP⟩, ?_⟩, ?_, h.ne, h.ok.add hcount k c hl hb⟩
    · intro x j hx hj
      simp only [Dv.add] at hj ⊢
      unfold put
      by_cases hxk : x = k
      · subst hxk
        simp only [if_true] at hj ⊢
        rw [List.length_append, List.length_singleton] at hj
        by_cases hjl : j = (t.pend x).length
        · subst hjl
          simp [List.getD, bv]
        · rw [if_neg (by simp; exact hjl)]
          rw [hQ2 x j hk (by omega)]
          simp [List.getD, List.getElem?_append, show j < (t.pend x).length by omega]
      · rw [if_neg hxk] at hj ⊢
        rw [if_neg (by simp; intro q; exact absurd q hxk)]
        exact hQ2 x j hx hj
    · rw [turns_add t k c hk]
      refine (htm2.blk (setBlock_other (setBlock w tb (.map esT clT)).drew pb _ tb (Ne.symm m3))).few (fun x v hx => ?_)
      unfold put at hx
      split at hx
      · rename_i q; subst q; exact hk
      · unfold Dv.turns at hx
        split at hx
        · rename_i q; exact q.1
        · cases hx
  · exact (((Keeps.refl [pb, tb] w).setBlock tb _ (by simp)).drew).setBlock pb _ (by simp)
theorem still_load_mid {P : Program} {ops : Array Oper} {w : World} {Q : Act → Prop} {a : Act} {o : Oper} {rest : List Oper} (hw : Region.wanted o (yielded ops a.tmps) = true) (ty : TypeId) (x : Operand) (ho : o.op = .load ty x)
    (b off : Nat) (hx : a.eval x = .pointer (some ⟨b, off, none⟩)) (cs : List Value) (d : TypeDesc) (hc : w.rangeAt b off cs)
    (hu : P.underlying ty = some d) (hd : d.isRow = true) (hi : (P.info? ty).map (·.size) = some cs.length) (h : wpStill P ops w Q rest (a.put o.dst (.agg cs.toArray))) : wpStill P ops w Q (o :: rest) a := by
  unfold wpStill
  rw [if_pos hw]
  unfold Oper.still
  have hr : (execOp a.eval o).run P w = .ok (.value (.agg cs.toArray)) w := by
    unfold execOp
    simp only [ho, hx, Instr.loadAt, Instr.sureAddr, Sem.run_bind, Sem.run_pure, Result.andThen_ok, run_loadVar_mid w b off ty cs d hc hu hd hi]
  rw [hr, Oper.stillUpon_value]
  exact h
set_option maxRecDepth 100000 in
set_option maxHeartbeats 1000000 in
theorem write_ok (p fb pb tb : Nat) (d : Dv) (k g : Nat) (c : List Nat) (w : World) (h : DevIs w p fb pb tb d) (ho : d.ops < 1000000) (hon : d.on = true) (hk : k < d.n) {ty : Nat} (hc : Full w g ty c) (hl : c.length = 512) (hb : ∀ i, c.getD i 0 < 256) (hg : g ≠ p) :
    Calls Tryd.prog 70 #[.pointer (some ⟨p, 0, none⟩), .int .i64 (k : Int), .slice (some ⟨g, 0, none⟩) 512 512] w fun e w' => e = .returned (.int .i64 0) ∧ DevIs w' p fb pb tb (d.tick.add k c) ∧ Keeps [p, pb, tb] w w' := by
  have HO : Hid (d.on = true) := hon
  have HH : Hid (hasB d.tick.n (k : Int) = true) := by show _ = _; simp [hasB, Dv.tick]; omega
  have HC : Hid (∀ x, (d.tick.pend x).length < d.tick.ops) := fun x => by have := h.ok.count x; simp [Dv.tick]; omega
  have hkt : k < d.tick.n := hk
  have hu := Tryd.underlying83
  have hi : (Tryd.prog.info? 83).map (·.size) = some (cv c).length := by rw [(zero_of_info zero81).2, cv_length, hl]
  have h5 : (cv c).length = 512 := by rw [cv_length, hl]
  have h1c := cv_one c
  have hA := fun w => arrayAt81 w g
  have HP : Hid (d.tick.pend = d.pend) := rfl
  have HLc : Hid (c.length = 512) := hl
  have hcnt : ((d.pend k).length : Int) ≤ 1000000 := by have := h.ok.count k; omega
  clear hon hl
  go_enter Tryd.func70, Tryd.ntmps70
  go_wp2_with (first
    | (go_at_call 59; refine (op_any p fb pb tb d _ h ho).mono ?_; rintro e w1 ⟨rfl, h1, k1⟩; rw [HO.out])
    | (go_at_call 57; refine (has_any p fb pb tb d.tick _ _ h1).mono ?_; rintro e w2 ⟨rfl, hw⟩; subst w2; rw [HH.out]; have hT := h1.lookT k hkt w1 rfl; have cc := h1.c; obtain ⟨W2, W3, rT, sT, rP, sP, hD, hK⟩ := wr_facts h1 hkt HC.out (hc.keeps k1 (by simpa using hg)) HLc.out hb; rw [HP.out] at hT rT rP sT; obtain ⟨q2, q3, q4, q5⟩ := sT; clear h1))
  refine wp_region_still_tail 15 (by kernel_rfl) (by kernel_rfl) ?_
  simp only [List.take_succ_cons, List.take_zero, List.drop_succ_cons, List.drop_zero]
  repeat (first | (refine still_load_mid (by rfl) 83 _ (by rfl) g 0 (by rfl) (cv c) _ q4 hu rfl hi ?_) | still_step)
  refine wpStill_nil ?_
  go_frame
  change wpList _ _ _ _ _ W2.drew
  go_wp2
  go_ret
  exact ⟨rfl, hD, (k1.mono (by simp)).trans hK (by simp)⟩
end Go.Proofs.YtohncckmennfbaaDoor
