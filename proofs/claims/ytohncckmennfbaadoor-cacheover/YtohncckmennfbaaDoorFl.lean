/- Flush. -/
import Derived.Test.YtohncckmennfbaaDoorWr
namespace Go.Proofs.YtohncckmennfbaaDoor
set_option linter.unusedSimpArgs false
set_option linter.unusedVariables false
open Go.RowKit Go.MapKept
open Go.ChangeMaps (setBlock heap_setBlock_same heap_setBlock_other)
/-- What a flush leaves. -/
def Dv.flush (d : Dv) : Dv := { d with base := d.cur, pend := fun _ => [] }
theorem DevIs.rebase {w : World} {p fb pb tb : Nat} {d : Dv} (h : DevIs w p fb pb tb d) (B : Nat → List Nat) (hB : ∀ k, k < d.n → B k = d.base k) (hok : ∀ k, (B k).length = 512 ∧ ∀ i, (B k).getD i 0 < 256) : DevIs w p fb pb tb { d with base := B } := by
  obtain ⟨hc, ⟨F, m, hF, hF2⟩, hp, ht, hn, ho⟩ := h
  exact ⟨hc, ⟨F, m, hF, fun k hk => by rw [hF2 k hk, show ({ d with base := B } : Dv).base k = B k from rfl, hB k hk]⟩, hp, ht, hn, ⟨ho.n1, ho.n2, ho.ops, ho.left, hok, ho.pend, ho.count⟩⟩
/-- One block is laid into the flushed ones. -/
theorem DevIs.storeF {w : World} {p fb pb tb : Nat} {d : Dv} (h : DevIs w p fb pb tb d) (k : Nat) (c : List Nat) (hc : c.length = 512 ∧ ∀ i, c.getD i 0 < 256) :
    ∃ es cl, (∀ w', w'.heap[fb]? = w.heap[fb]? → (Instr.mapUpdate 72 (.map (some fb)) (.int .i64 (k : Int)) (.agg (cv c).toArray)).run Tryd.prog w' = .ok () (setBlock w' fb (.map es cl))) ∧
      ∀ w', (∀ x ∈ fp p fb pb tb, w'.heap[x]? = w.heap[x]?) → DevIs (setBlock w' fb (.map es cl)) p fb pb tb { d with base := fun x => if x = k then c else d.base x } := by
  obtain ⟨n1, n2, n3⟩ := h.pne
  obtain ⟨m1, m2, m3⟩ := h.ne
  obtain ⟨F, m, hF, hF2⟩ := h.fm
  obtain ⟨es, cl, r, E, s⟩ := hF.store kbI Tryd.underlying72 k (.agg (cv c).toArray)
  refine ⟨es, cl, r, fun w' hw => ?_⟩
  have hlt : fb < w'.heap.size := by
    have := hF.lt
    have e := hw fb (by simp [fp])
    rcases Nat.lt_or_ge fb w'.heap.size with q | q
    · exact q
    · rw [Array.getElem?_eq_none q, Array.getElem?_eq_getElem this] at e; cases e
  obtain ⟨hc2, _, ⟨Q, mq, hQ, hQ2⟩, ht, hn, ho⟩ := h
  refine ⟨(setBlock_other _ _ _ _ n1).trans ((hw p (by simp [fp])).trans hc2), ⟨_, _, ⟨es, cl, setBlock_same _ _ _ hlt, E, s⟩, fun x hx => ?_⟩, ⟨Q, mq, hQ.blk ((setBlock_other _ _ _ _ (Ne.symm m1)).trans (hw pb (by simp [fp]))), hQ2⟩,
    ht.blk ((setBlock_other _ _ _ _ (Ne.symm m2)).trans (hw tb (by simp [fp]))), hn, ⟨ho.n1, ho.n2, ho.ops, ho.left, fun x => ?_, ho.pend, ho.count⟩⟩
  · unfold put
    by_cases e : x = k
    · simp [e, bv]
    · simp [e]; exact hF2 x hx
  · simp only
    split
    · exact hc
    · exact ho.base x
theorem flush_off (p fb pb tb : Nat) (d : Dv) (w : World) (h : DevIs w p fb pb tb d) (ho : d.ops < 1000000) (hon : d.on = false) :
    Calls Tryd.prog 39 #[.pointer (some ⟨p, 0, none⟩)] w fun e w' => e = .returned (.int .i64 9) ∧ DevIs w' p fb pb tb d.tick ∧ Keeps [p] w w' := by
  have HO : Hid (d.on = false) := hon
  clear hon
  go_enter Tryd.func39, Tryd.ntmps39
  go_wp2_with (go_at_call 59; refine (op_any p fb pb tb d _ h ho).mono ?_; rintro e w1 ⟨rfl, h1, k1⟩; rw [HO.out])
  go_ret
  exact ⟨rfl, h1, k1⟩
/-- On the way through the blocks that have pending writes. -/
structure FlAt (w0 : World) (p fb pb tb r : Nat) (t : Dv) (wr : World) (left : Nat → Prop) (cnt : Nat) (B : Nat → List Nat) : Prop where
  dev : DevIs wr p fb pb tb { t with base := B }
  rng : Rng wr tb r mkI t.turns t.n left cnt
  todo : ∀ k, left k → B k = t.base k
  done : ∀ k, k < t.n → ¬ left k → B k = t.cur k
  keep : Keeps [p, fb, pb, tb] w0 wr
  rnew : r ∉ fp p fb pb tb
  tok : t.Ok
theorem turns_some {d : Dv} {k : Nat} {v : Value} (h : d.turns k = some v) : k < d.n ∧ d.pend k ≠ [] ∧ v = .int .i64 ((d.pend k).length : Int) := by
  unfold Dv.turns at h
  split at h
  · rename_i q; exact ⟨q.1, q.2, by simpa using h.symm⟩
  · cases h
theorem turns_none {d : Dv} {k : Nat} (hk : k < d.n) (h : ¬ ∃ v, d.turns k = some v) : d.pend k = [] := by
  unfold Dv.turns at h
  by_cases q : d.pend k = []
  · exact q
  · exact absurd ⟨_, if_pos ⟨hk, q⟩⟩ h
theorem FlAt.step {w0 wr w1 w2 : World} {p fb pb tb r : Nat} {t : Dv} {left : Nat → Prop} {cnt cnt' : Nat} {B : Nat → List Nat} (h : FlAt w0 p fb pb tb r t wr left cnt B) {k : Nat} (hk : left k) (hr1 : Rng w1 tb r mkI t.turns t.n (fun x => left x ∧ x ≠ k) cnt')
    (ho : ∀ g, g ≠ r → w1.heap[g]? = wr.heap[g]?) (hg : wr.grownBy w1 (some r)) (hr0 : w0.heap.size ≤ r) (hb : Below w1.heap.size w1 w2) :
    ∃ es cl, (∀ w', w'.heap[fb]? = w2.heap[fb]? → (Instr.mapUpdate 72 (.map (some fb)) (.int .i64 (k : Int)) (.agg (cv (t.cur k)).toArray)).run Tryd.prog w' = .ok () (setBlock w' fb (.map es cl))) ∧
      FlAt w0 p fb pb tb r t (setBlock w2 fb (.map es cl)) (fun x => left x ∧ x ≠ k) cnt' (fun x => if x = k then t.cur k else B x) := by
  have hd2 : DevIs w2 p fb pb tb { t with base := B } := (h.dev.blk fun x hx => ho x (fun e => h.rnew (e ▸ hx))).below hb
  have hok : t.Ok := h.tok
  obtain ⟨es, cl, r1, r2⟩ := hd2.storeF k (t.cur k) (hok.cur k)
  refine ⟨es, cl, r1, r2 w2 (fun _ _ => rfl), ?_, ?_, ?_, ?_, h.rnew, hok⟩
  · obtain ⟨m1, m2, m3⟩ := h.dev.ne
    have hrf : r ≠ fb := fun e => h.rnew (by simp [fp, e])
    exact (hr1.blk (hb.block _ hr1.map.lt) (hb.block _ hr1.lt)).blk (setBlock_other _ _ _ _ (Ne.symm m2)) (setBlock_other _ _ _ _ hrf)
  · rintro x ⟨h1, h2⟩
    rw [if_neg h2]; exact h.todo x h1
  · intro x hx hn
    by_cases e : x = k
    · simp [e]
    · simp only [if_neg e]
      exact h.done x hx (fun q => hn ⟨q, e⟩)
  · have k1 : Keeps [p, fb, pb, tb] w0 w1 := h.keep.trans (⟨hg.os, hg.tape, hg.output, hg.size, fun x hx hn => hg.block x hx (fun e => hn (by simpa using e))⟩ : Keeps [r] wr w1) (by simpa using Or.inr hr0)
    exact (k1.trans (Keeps.of_below hb []) (by simp)).setBlock fb _ (by simp)
theorem Dv.Ok.flush {d : Dv} (h : d.Ok) : d.flush.Ok := ⟨h.n1, h.n2, h.ops, h.left, fun k => h.cur k, by simp [Dv.flush], by simp [Dv.flush]⟩
theorem mapNone {α : Type} {mk : α → Value} {w : World} (f : α → Option Value) (b m : Nat) (hf : ∀ x, f x = none) (hb : w.heap[b]? = some (.map #[] 0)) : MapIs w b mk f m :=
  ⟨#[], 0, hb, ⟨stamped_empty 0, by simp, fun a v h => by rw [hf a] at h; cases h⟩, Nat.zero_le _⟩
theorem flush_end {w w1 wr w4 : World} {p fb pb tb r : Nat} {d : Dv} {left : Nat → Prop} {cnt : Nat} {B : Nat → List Nat} (h : DevIs w p fb pb tb d) (k1 : Keeps [p] w w1) (hr0 : w.heap.size ≤ w1.heap.size) (hF : FlAt w1 p fb pb tb r d.tick wr left cnt B) (hnone : ∀ a, ¬ left a)
    (e1 : w4.heap[p]? = some (.cells #[.int .i64 (d.tick.n : Int), .map (some fb), .map (some wr.heap.size), .map (some (wr.heap.size + 1)), .int .i64 (d.tick.ops : Int), .bool d.tick.cut, .int .i64 (d.tick.left : Int)] 75 (0, 0)))
    (e2 : w4.heap[wr.heap.size]? = some (.map #[] 0)) (e3 : w4.heap[wr.heap.size + 1]? = some (.map #[] 0)) (hk : Keeps [p] wr w4) :
    ∃ pb' tb', Ending.returned (.int .i64 0) = .returned (.int .i64 0) ∧ DevIs w4 p fb pb' tb' d.tick.flush ∧ Keeps (fp p fb pb tb) w w4 ∧ w.heap.size ≤ pb' ∧ w.heap.size ≤ tb' := by
  have hz := hF.keep.size
  refine ⟨wr.heap.size, wr.heap.size + 1, rfl, ⟨e1, ?_, ⟨fun _ => none, 0, mapNone _ _ _ (fun _ => rfl) e2, by simp [Dv.flush]⟩, mapNone _ _ _ (fun k => by simp [Dv.turns, Dv.flush]) e3, ?_, hF.tok.flush⟩, ?_, by omega, by omega⟩
  · obtain ⟨F, m, hFm, hF2⟩ := hF.dev.fm
    have hne := hF.dev.pne.1
    refine ⟨F, m, hFm.blk (hk.block fb hFm.lt (by simpa using Ne.symm hne)), fun k hk => ?_⟩
    rw [hF2 k hk]
    show bv (B k) = bv (d.tick.cur k)
    rw [hF.done k hk (hnone k)]
  · obtain ⟨F, m, hFm, hF2⟩ := hF.dev.fm
    have := hFm.lt
    omega
  · have ka : Keeps (fp p fb pb tb) w w1 := k1.mono (by simp [fp])
    have kb : Keeps (fp p fb pb tb) w wr := ka.trans hF.keep (fun x hx => .inl hx)
    exact kb.trans hk (by simp [fp])
set_option maxRecDepth 100000 in
set_option maxHeartbeats 1000000 in
theorem flush_on (p fb pb tb : Nat) (d : Dv) (w : World) (h : DevIs w p fb pb tb d) (ho : d.ops < 1000000) (hon : d.on = true) :
    Calls Tryd.prog 39 #[.pointer (some ⟨p, 0, none⟩)] w fun e w' => ∃ pb' tb', e = .returned (.int .i64 0) ∧ DevIs w' p fb pb' tb' d.tick.flush ∧ Keeps (fp p fb pb tb) w w' ∧ w.heap.size ≤ pb' ∧ w.heap.size ≤ tb' := by
  have HO : Hid (d.on = true) := hon
  clear hon
  go_enter Tryd.func39, Tryd.ntmps39
  go_wp2_with (first
    | (go_at_call 59; refine (op_any p fb pb tb d _ h ho).mono ?_; rintro e w1 ⟨rfl, h1, k1⟩; rw [HO.out]; have cc := h1.c; obtain ⟨W2, hrange, hR, hB2, hS2⟩ := h1.tm.range kbI Tryd.underlying30))
  have HR0 : Hid (w.heap.size ≤ w1.heap.size) := k1.size
  go_loopw [3] (fun _ wr => ∃ left cnt B, FlAt w1 p fb pb tb w1.heap.size d.tick wr left cnt B) (fun _ wr => wr.rangeLeft tb w1.heap.size)
  case atStart =>
    refine ⟨_, _, d.tick.base, h1.below hB2, hR, fun _ _ => rfl, fun k hk hn => ?_, Keeps.of_below hB2 _, fun hx => by have := h1.lt _ hx; omega, h1.ok⟩
    simp [Dv.cur, turns_none hk hn, Dv.at]
  case round =>
    clear hR hrange hB2 hS2 cc
    obtain ⟨left, cnt, B, hF⟩ := hrel
    rcases hF.rng.next' kbI with ⟨_, hnone, hnx⟩ | ⟨k, v, W3, cnt', hleft, hv, hnx, hR3, hlt, ho3, hg3, hs3, hen⟩
    · have hfo := forget_any p _ _ _ _ _ _ _ wr hF.dev.cells
      go_wp2_with (go_at_call 60; refine hfo.mono ?_; rintro e w4 ⟨⟨v, rfl⟩, e1, e2, e3, hk⟩)
      go_ret
      exact flush_end h k1 HR0.out hF hnone e1 e2 e3 hk
    · obtain ⟨hkn, hpne, rfl⟩ := turns_some hv
      have hd3 := hF.dev.blk (w' := W3) fun x hx => ho3 x (fun e => hF.rnew (e ▸ hx))
      have cc := hd3.c
      have c1 : W3.cell? ⟨p, 1, none⟩ = some (.map (some fb)) := cc.2.1
      have HST : Hid (∀ w', w'.heap = W3.heap → Calls Tryd.prog 45 #[.pointer (some ⟨p, 0, none⟩), .int .i64 (k : Int), .int .i64 ((d.tick.pend k).length : Int)] w' fun e w'' => e = .returned (.agg (cv (d.tick.cur k)).toArray) ∧ Below w'.heap.size w' w'') := fun w' hw => by
        refine (state_any p fb pb tb { d.tick with base := B } k (d.tick.pend k).length w' (hd3.heap hw) hkn (Nat.le_refl _)).mono ?_
        rintro e w'' ⟨rfl, hb⟩
        have hl : (d.tick.pend k).length ≠ 0 := by simpa using hpne
        have e2 : ({ d.tick with base := B } : Dv).at k (d.tick.pend k).length = d.tick.cur k := by simp [Dv.at, Dv.cur, hl]
        rw [e2]
        exact ⟨rfl, hb⟩
      have HPF : Hid (p ≠ fb) := hd3.pne.1
      clear cc hv hpne
      go_wp2
      go_region_held3 (fun w' => w'.cell? ⟨p, 1, none⟩ = some (.map (some fb))) (first | exact c1 | exact q4 | exact q5)
        ((go_at_call 45; refine (HST.out _ (by rfl)).mono ?_; rintro e w4 ⟨rfl, hb⟩; have hb4 : Below W3.heap.size W3 w4 := ⟨hb.os, hb.tape, hb.output, hb.size, hb.block⟩; have hd4 := hd3.below hb4; have q4 : w4.cell? ⟨p, 1, none⟩ = some (.map (some fb)) := hd4.c.2.1; obtain ⟨es, cl, r1, hF2⟩ := hF.step hleft hR3 ho3 hg3 (Nat.le_refl _) hb4; have r2 := r1 w4 rfl; have q5 : (setBlock w4 fb (.map es cl)).cell? ⟨p, 1, none⟩ = some (.map (some fb)) := (cell_blk (setBlock_other w4 fb (.map es cl) p HPF.out)).trans q4))
      all_goals go_wp2
      exact ⟨⟨_, _, _, hF2⟩, by rw [hF2.rng.left_eq, hF.rng.left_eq]; exact hlt⟩
end Go.Proofs.YtohncckmennfbaaDoor
