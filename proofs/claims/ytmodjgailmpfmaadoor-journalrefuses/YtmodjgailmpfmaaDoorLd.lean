/- changes, walked. -/
import Derived.Test.YtmodjgailmpfmaaDoorLc
namespace Go.Proofs.YtmodjgailmpfmaaDoor
set_option linter.unusedSimpArgs false
set_option linter.unusedVariables false
open Go.RowKit Go.MapKept Go.Proofs
theorem info49 : (Tryd.prog.info? 49).map (fun i => (i.zero, i.size, i.bytes)) = some (some (.agg #[.int .i64 0, .slice none 0 0]), 2, 32) := by kernel_rfl
/-- Which homes were met. -/
def mv30 (hl : List Nat) : Array Value := ((List.range 30).map fun k => Value.bool (decide (245 + k ∈ hl))).toArray
theorem mv30_get (hl : List Nat) (k : Nat) (h : k < 30) : (mv30 hl)[k]? = some (.bool (decide (245 + k ∈ hl))) := by simp [mv30, h]
theorem mv30_set (hl : List Nat) (k : Nat) (h : k < 30) : (mv30 hl).setIfInBounds k (.bool true) = mv30 (hl ++ [245 + k]) := by
  apply Array.ext (by simp [mv30])
  intro i h1 h2
  simp only [mv30, List.setIfInBounds_toArray, List.getElem_toArray, List.getElem_set, List.getElem_map, List.getElem_range]
  by_cases e : k = i
  · subst e; simp
  · rw [if_neg e]
    congr 1
    rw [decide_eq_decide, List.mem_append, List.mem_singleton]
    exact ⟨fun q => .inl q, fun q => q.resolve_right (by omega)⟩
theorem av_set (st : List Int) (k : Nat) (x : Int) : (av st).setIfInBounds k (.int .i64 x) = av (st.set k x) := by simp [av, List.map_set]
structure ChAt (w0 wr : World) (sb rb mb : Nat) (c : Cs) (v : Value) (gs : List Nat) : Prop where
  st : wr.heap[sb]? = some (.cells (av c.st) 30 (0, 0))
  met : wr.heap[mb]? = some (.cells (mv30 c.hl) 72 (0, 0))
  res : ∃ A, wr.heap[rb]? = some (.cells A 30 (0, 0)) ∧ A.size = 30
  own : wr.ownsRow w0.heap.size 49 2 v c.hl.length (chv c.hl gs)
  gsl : gs.length = c.hl.length
  dat : ∀ i, i < c.hl.length → Full wr (gs.getD i 0) 5 (bb ((c.vs.getD i 0 : Nat) : Int)) ∧ w0.heap.size ≤ gs.getD i 0
  bel : Below w0.heap.size w0 wr
  ne : sb ≠ rb ∧ sb ≠ mb ∧ rb ≠ mb
  ge : w0.heap.size ≤ sb ∧ w0.heap.size ≤ rb ∧ w0.heap.size ≤ mb
/-- What changes leaves. -/
def ChgPost (w : World) (cl : List (Int × Int)) (st : List Int) (e : Ending) (w' : World) : Prop :=
  ∃ v gs, e = .returned (.tuple #[v, .agg (av (csOf cl st).st)]) ∧ w'.ownsRow w.heap.size 49 2 v (csOf cl st).hl.length (chv (csOf cl st).hl gs) ∧ gs.length = (csOf cl st).hl.length ∧ (∀ i, i < (csOf cl st).hl.length → Full w' (gs.getD i 0) 5 (bb (((csOf cl st).vs.getD i 0 : Nat) : Int)) ∧ w.heap.size ≤ gs.getD i 0) ∧ Below w.heap.size w w'
/-- A row of changes of one's own is none of these. -/
theorem own49 {w w' : World} {base n : Nat} {v : Value} {xs : List Value} (ho : w.ownsRow base 49 2 v n xs) (hg : w.grownBy w' v.ownBlock) {b t : Nat} {A : Array Value} (hb : w.heap[b]? = some (.cells A t (0, 0))) (ht : t ≠ 49) : w'.heap[b]? = some (.cells A t (0, 0)) := by
  refine (hg.block b (Array.getElem?_eq_some_iff.1 hb).1 (fun e => ?_)).trans hb
  rcases ho.2 with ⟨rfl, _⟩ | ⟨g, cap, cur, rfl, _, hgg, _⟩
  · cases e
  · cases e
    rw [hgg] at hb
    injection hb with q
    injection q with _ q2
    exact ht q2.symm
theorem owns_blk49 {w w' : World} {base n : Nat} {v : Value} {xs : List Value} (ho : w.ownsRow base 49 2 v n xs) (e : ∀ b, v.ownBlock = some b → w'.heap[b]? = w.heap[b]?) : w'.ownsRow base 49 2 v n xs := by
  refine ⟨ho.1, ?_⟩
  rcases ho.2 with q | ⟨g, cap, cur, rfl, hb, hg, r⟩
  · exact .inl q
  · exact .inr ⟨g, cap, cur, rfl, hb, (e g rfl).trans hg, r⟩
theorem own49_ne {w : World} {base n : Nat} {v : Value} {xs : List Value} (ho : w.ownsRow base 49 2 v n xs) {b t : Nat} {A : Array Value} (hb : w.heap[b]? = some (.cells A t (0, 0))) (ht : t ≠ 49) : v.ownBlock ≠ some b := fun e => by
  rcases ho.2 with ⟨rfl, _⟩ | ⟨g, cap, cur, rfl, _, hgg, _⟩
  · cases e
  · cases e
    rw [hgg] at hb
    injection hb with q
    injection q with _ q2
    exact ht q2.symm
theorem ChAt.step {w0 wr w3 w5 : World} {sb rb mb K Vr g : Nat} {c : Cs} {v v' : Value} {gs : List Nat} (h : ChAt w0 wr sb rb mb c v gs) (hlen : c.vs.length = c.hl.length) (hK : K < 30) (hb3 : Below (wr.setCell ⟨mb, K, none⟩ (.bool true)).heap.size (wr.setCell ⟨mb, K, none⟩ (.bool true)) w3) (hg : Full w3 g 5 (bb ((Vr : Nat) : Int))) (hge : (wr.setCell ⟨mb, K, none⟩ (.bool true)).heap.size ≤ g)
    (hg5 : (w3.alloc (.cells #[.int .i64 (245 + (K : Int)), .slice (some ⟨g, 0, none⟩) 512 512] 49)).grownBy w5 v.ownBlock) (hown : w5.ownsRow w0.heap.size 49 2 v' (c.hl.length + 1) (chv c.hl gs ++ [.int .i64 (245 + (K : Int)), .slice (some ⟨g, 0, none⟩) 512 512])) :
    ChAt w0 (w5.setCell ⟨sb, K, none⟩ (.int .i64 ((Vr : Nat) : Int))) sb rb mb ⟨c.hl ++ [245 + K], c.vs ++ [Vr], c.st.set K ((Vr : Nat) : Int)⟩ v' (gs ++ [g]) ∧ w5.heap[sb]? = some (.cells (av c.st) 30 (0, 0)) := by
  have sz : (wr.setCell ⟨mb, K, none⟩ (.bool true)).heap.size = wr.heap.size := by simp [World.setCell]
  have b4 : Below w3.heap.size w3 (w3.alloc (.cells #[.int .i64 (245 + (K : Int)), .slice (some ⟨g, 0, none⟩) 512 512] 49)) := (Below.refl _ _).alloc (Nat.le_refl _) _
  have hb4 := hb3.trans (b4.mono hb3.size)
  have o2 : (wr.setCell ⟨mb, K, none⟩ (.bool true)).ownsRow w0.heap.size 49 2 v c.hl.length (chv c.hl gs) := owns_blk49 h.own (fun b e => heap_setCell_other _ _ _ _ (fun q => own49_ne h.own h.met (by decide) (by rw [e, q])))
  have o4 := owns_below o2 hb4
  have old : ∀ (b t : Nat) (A : Array Value), (wr.setCell ⟨mb, K, none⟩ (.bool true)).heap[b]? = some (Obj.cells A t (0, 0)) → t ≠ 49 → w5.heap[b]? = some (Obj.cells A t (0, 0)) := fun b t A hb ht =>
    own49 o4 hg5 ((hb4.block b (Array.getElem?_eq_some_iff.1 hb).1).trans hb) ht
  have hm2 : (wr.setCell ⟨mb, K, none⟩ (.bool true)).heap[mb]? = some (.cells (mv30 (c.hl ++ [245 + K])) 72 (0, 0)) := by
    rw [heap_setCell_same _ _ _ _ _ _ h.met, mv30_set _ _ hK]
  have hs2 := (heap_setCell_other wr ⟨mb, K, none⟩ sb (.bool true) h.ne.2.1).trans h.st
  have hs5 := old sb 30 _ hs2 (by decide)
  obtain ⟨A, hA, hA2⟩ := h.res
  have hr2 := (heap_setCell_other wr ⟨mb, K, none⟩ rb (.bool true) h.ne.2.2).trans hA
  have oth : ∀ b, b ≠ sb → (w5.setCell ⟨sb, K, none⟩ (.int .i64 ((Vr : Nat) : Int))).heap[b]? = w5.heap[b]? := fun b hb => heap_setCell_other _ _ _ _ hb
  have hz0 := h.bel.size
  refine ⟨⟨?_, ?_, ⟨A, (oth rb h.ne.1.symm).trans (old rb 30 _ hr2 (by decide)), hA2⟩, ?_, by simp [h.gsl], fun i hi => ?_, ?_, h.ne, h.ge⟩, hs5⟩
  · rw [heap_setCell_same _ _ _ _ _ _ hs5, av_set]
  · exact (oth mb h.ne.2.1.symm).trans (old mb 72 _ hm2 (by decide))
  · rw [List.length_append, chv_app _ _ _ _ h.gsl, show ((245 + K : Nat) : Int) = 245 + (K : Int) by omega]
    exact owns_blk49 hown (fun b e => oth b (fun q => own49_ne hown hs5 (by decide) (by rw [e, q])))
  · have hfull : ∀ x cc, Full (w3.alloc (.cells #[.int .i64 (245 + (K : Int)), .slice (some ⟨g, 0, none⟩) 512 512] 49)) x 5 cc → Full (w5.setCell ⟨sb, K, none⟩ (.int .i64 ((Vr : Nat) : Int))) x 5 cc := fun x cc hf => by
      have hf5 : Full w5 x 5 cc := own49 o4 hg5 hf (by decide)
      exact (oth x (fun q => by rw [q] at hf5; unfold Full at hf5; rw [hs5] at hf5; injection hf5 with q1; injection q1 with _ q2; exact absurd q2 (by decide))).trans hf5
    by_cases hi2 : i < c.hl.length
    · obtain ⟨d1, d2⟩ := h.dat i hi2
      have e1 : (gs ++ [g]).getD i 0 = gs.getD i 0 := by simp [List.getD, List.getElem?_append, show i < gs.length by rw [h.gsl]; exact hi2]
      have e2 : (c.vs ++ [Vr]).getD i 0 = c.vs.getD i 0 := by simp [List.getD, List.getElem?_append, show i < c.vs.length by rw [hlen]; exact hi2]
      simp only
      rw [e1, e2]
      have d3 : Full (wr.setCell ⟨mb, K, none⟩ (.bool true)) (gs.getD i 0) 5 (bb ((c.vs.getD i 0 : Nat) : Int)) := d1.blk (heap_setCell_other _ _ _ _ (fun q => by
        unfold Full at d1; rw [q, h.met] at d1; injection d1 with q1; injection q1 with _ q2; exact absurd q2 (by decide)))
      exact ⟨hfull _ _ (d3.below hb4), d2⟩
    · obtain rfl : i = c.hl.length := by simp at hi; omega
      have e1 : (gs ++ [g]).getD c.hl.length 0 = g := by simp [List.getD, ← h.gsl]
      have e2 : (c.vs ++ [Vr]).getD c.hl.length 0 = Vr := by simp [List.getD, ← hlen]
      simp only
      rw [e1, e2]
      exact ⟨hfull _ _ (hg.below b4), by omega⟩
  · have h2 : Below w0.heap.size w0 (wr.setCell ⟨mb, K, none⟩ (.bool true)) := h.bel.setCell h.ge.2.2 _
    have h4 := h2.trans (hb4.mono h2.size)
    exact (h4.grown hg5 h4.size (fun x hx => (o4.lt x hx).1)).setCell h.ge.1 _
def chW (w : World) (st : List Int) : World := ((w.alloc (.cells (av st) 30)).alloc (.cells (av (List.replicate 30 0)) 30)).alloc (.cells (mv30 []) 72)
theorem chW_at (w : World) (st : List Int) (h : st.length = 30) : ChAt w (chW w st) w.heap.size (w.heap.size + 1) (w.heap.size + 1 + 1) ⟨[], [], st⟩ (.slice none 0 0) [] := by
  have s1 : (w.alloc (.cells (av st) 30)).heap.size = w.heap.size + 1 := by show (w.heap.push _).size = _; simp
  have s2 : ((w.alloc (.cells (av st) 30)).alloc (.cells (av (List.replicate 30 0)) 30)).heap.size = w.heap.size + 2 := by show ((w.heap.push _).push _).size = _; simp
  have b1 : Below w.heap.size w (w.alloc (.cells (av st) 30)) := (Below.refl _ _).alloc (Nat.le_refl _) _
  have b2 := b1.alloc b1.size (.cells (av (List.replicate 30 0)) 30)
  refine ⟨?_, ?_, ⟨av (List.replicate 30 0), ?_, by simp [av]⟩, World.ownsRow_nil _ _ _ _, rfl, by intro i hi; simp at hi, b2.alloc b2.size _, ⟨by omega, by omega, by omega⟩, ⟨Nat.le_refl _, by omega, by omega⟩⟩
  · unfold chW
    rw [Below.heap_alloc _ _ _ (by rw [s2]; omega), Below.heap_alloc _ _ _ (by rw [s1]; omega)]
    exact heap_alloc_new w _
  · have := heap_alloc_new ((w.alloc (.cells (av st) 30)).alloc (.cells (av (List.replicate 30 0)) 30)) (.cells (mv30 []) 72)
    rw [s2] at this
    exact this
  · unfold chW
    rw [Below.heap_alloc _ _ _ (by rw [s2]; omega)]
    have := heap_alloc_new (w.alloc (.cells (av st) 30)) (.cells (av (List.replicate 30 0)) 30)
    rw [s1] at this
    exact this
theorem results_tmp_row {P : Program} {fn : Func} {q p : Tmp} {ty : TypeId} (h : fn.results = #[.tmp q, .cell p ty]) (tmps : Array Value) (w : World) (v : Value) (g : Nat) (t : TypeId) (cs : Array Value) (fr : Nat × Nat) (d : TypeDesc)
    (hq : tmps.getD q undef = v) (hp : tmps.getD p undef = .pointer (some ⟨g, 0, none⟩)) (hg : w.heap[g]? = some (.cells cs t fr))
    (hu : P.underlying ty = some d) (hd : (match d with | .struct _ | .array _ _ => true | _ => false) = true) (hi : (P.info? ty).map (·.size) = some cs.size) :
    (results fn tmps).run P w = .ok (.tuple #[v, .agg cs]) w := by
  have hp' : tmps[p]?.getD undef = .pointer (some ⟨g, 0, none⟩) := by simpa using hp
  have hq' : tmps[q]?.getD undef = v := by simpa using hq
  simp [results, h, hp', hq', asAddr, run_loadVar_row w g t ty cs fr d hg hu hd hi]
set_option maxRecDepth 100000 in
set_option maxHeartbeats 1000000 in
theorem changes_any (la : Option Addr) (cap : Nat) (cl : List (Int × Int)) (st : List Int) (w : World) (hl : LRow w la cl) (hcl : cl.length ≤ 9223372036854775807) (hst : st.length = 30) :
    Calls Tryd.prog 17 #[.slice la cl.length cap, .agg (av st)] w (ChgPost w cl st) := by
  obtain ⟨i0, hi, hz0, hz1, hz2⟩ := info_parts info49
  have hbl : (cl.length : Int) ≤ 9223372036854775807 := by omega
  have HW0 : Hid _ := chW_at w st hst
  go_enter Tryd.func17, Tryd.ntmps17
  go_wp2
  go_loopw [6, 8] (fun v i wr => ∃ k gs, k ≤ cl.length ∧ i = .int .i64 ((k : Nat) : Int) ∧ ChAt w wr w.heap.size (w.heap.size + 1) (w.heap.size + 1 + 1) (csOf (cl.take k) st) v gs) (fun _ i _ => cl.length - (intOf i).toNat)
  case atStart => exact ⟨0, [], by omega, rfl, HW0.out⟩
  case round =>
    clear HW0
    obtain ⟨k, gs, hk, rfl, hA⟩ := hrel
    by_cases hlt : k < cl.length
    · have hltI : (k : Int) < (cl.length : Int) := by omega
      obtain ⟨lk, off, hla, r0, _, _, _⟩ := hl k hlt
      have hlkl := World.block_lt_of_cell? _ _ r0
      obtain ⟨lk', off', hla', r1, r2, r3, r4⟩ := (hl.below hA.bel) k hlt
      rw [hla] at hla'
      injection hla' with q
      injection q with q1 q2
      subst q1; subst q2; subst hla
      dsimp only at hlkl
      clear r0
      have HST : Hid (csOf (cl.take (k + 1)) st = (csOf (cl.take k) st).step (cl.getD k (0, 0))) := csOf_take cl st k hlt
      have hok := csOk (cl.take k) st hst
      generalize csOf (cl.take k) st = c at *
      generalize cl.getD k (0, 0) = pp at *
      obtain ⟨Bz, Vz⟩ := pp
      dsimp only at r1 r2 r3 r4
      have hR1 := fun w' => round_any Bz 30 w' r3.1 r3.2 (by omega) (by omega)
      have hR2 := fun w' => round_any Vz 200 w' r4.1 r4.2 (by omega) (by omega)
      have hK := rd_lt Bz 30 (by omega)
      have hVr := rd_lt Vz 200 (by omega)
      have hmc : wr.cell? ⟨w.heap.size + 1 + 1, rd Bz 30, none⟩ = some (.bool (decide (245 + rd Bz 30 ∈ c.hl))) := by rw [cell_of_row _ _ _ _ _ _ hA.met]; exact mv30_get _ _ hK
      have hmf := frozen_of_row wr (w.heap.size + 1 + 1) (rd Bz 30) _ 72 hA.met
      have HR1 : Hid (∀ w', Calls Tryd.prog 32 #[.int .i64 Bz, .int .i64 30] w' fun e w'' => e = .returned (.int .i64 ((rd Bz 30 : Nat) : Int)) ∧ w'' = w') := hR1
      have HR2 : Hid (∀ w', Calls Tryd.prog 32 #[.int .i64 Vz, .int .i64 200] w' fun e w'' => e = .returned (.int .i64 ((rd Vz 200 : Nat) : Int)) ∧ w'' = w') := hR2
      clear hR1 hR2
      unfold Cs.step at HST
      dsimp only at HST
      generalize rd Bz 30 = K at *
      generalize rd Vz 200 = Vr at *
      have hKI : (K : Int) < 30 := by omega
      by_cases hin : 245 + K ∈ c.hl
      · have HST2 : Hid (csOf (cl.take (k + 1)) st = c) := by show _ = _; rw [HST.out, if_pos hin]
        rw [decide_eq_true hin] at hmc
        clear HST hin
        go_wp2_with (go_at_call_of 32 (Value.int IntKind.i64 Bz); refine (HR1.out _).mono ?_; rintro e w2 ⟨rfl, hw⟩; subst w2)
        exact ⟨⟨k + 1, gs, by omega, by go_num, by rw [HST2.out]; exact hA⟩, by simp [intOf]; omega⟩
      · have HST2 : Hid (csOf (cl.take (k + 1)) st = ⟨c.hl ++ [245 + K], c.vs ++ [Vr], c.st.set K ((Vr : Nat) : Int)⟩) := by show _ = _; rw [HST.out, if_neg hin]
        rw [decide_eq_false hin] at hmc
        have hfew := hok.few
        have hlk2 : (wr.setCell ⟨w.heap.size + 1 + 1, K, none⟩ (.bool true)).cell? ⟨lk, off + k * 2 + 1, none⟩ = some (.int .i64 Vz) := by
          rw [cell_blk (heap_setCell_other _ _ _ _ (fun q => by have hx : lk = w.heap.size + 1 + 1 := q; omega))]
          exact r2
        have hown4 : ∀ w3 g, Below (wr.setCell ⟨w.heap.size + 1 + 1, K, none⟩ (.bool true)).heap.size (wr.setCell ⟨w.heap.size + 1 + 1, K, none⟩ (.bool true)) w3 → (w3.alloc (.cells #[.int .i64 (245 + (K : Int)), .slice (some ⟨g, 0, none⟩) 512 512] 49)).ownsRow w.heap.size 49 2 u6 c.hl.length (chv c.hl gs) := fun w3 g hb => by
          have o2 : (wr.setCell ⟨w.heap.size + 1 + 1, K, none⟩ (.bool true)).ownsRow w.heap.size 49 2 u6 c.hl.length (chv c.hl gs) := owns_blk49 hA.own (fun b e => heap_setCell_other _ _ _ _ (fun q => own49_ne hA.own hA.met (by decide) (by rw [e, q])))
          exact (owns_below o2 hb).alloc _
        have hnw : ∀ (w3 : World) (g : Nat) (j : Nat) (u : Value), [Value.int .i64 (245 + (K : Int)), .slice (some ⟨g, 0, none⟩) 512 512][j]? = some u → (w3.alloc (.cells #[.int .i64 (245 + (K : Int)), .slice (some ⟨g, 0, none⟩) 512 512] 49)).cell? ((⟨w3.heap.size, 0, none⟩ : Addr).add j) = some u := by
          intro w3 g j u hj
          rw [Addr.add_lit, cell_of_row _ _ _ _ _ _ (heap_alloc_new w3 _)]
          simpa using hj
        have h1c : ∀ (g : Nat), ∀ u ∈ [Value.int .i64 (245 + (K : Int)), .slice (some ⟨g, 0, none⟩) 512 512], u.oneCell' = true := by intro g u hu; simp at hu; rcases hu with rfl | rfl <;> rfl
        have x1 : c.hl.length + 1 ≤ maxLen := by unfold maxLen; omega
        have x2 : (c.hl.length + 1) * 32 ≤ 140737488355328 := by omega
        have x3 : ∀ w3 g, Below (wr.setCell ⟨w.heap.size + 1 + 1, K, none⟩ (.bool true)).heap.size (wr.setCell ⟨w.heap.size + 1 + 1, K, none⟩ (.bool true)) w3 → w.heap.size ≤ (w3.alloc (.cells #[.int .i64 (245 + (K : Int)), .slice (some ⟨g, 0, none⟩) 512 512] 49)).heap.size := fun w3 g hb => by
          have q1 := hA.bel.size
          have q2 := hb.size
          have q3 : (wr.setCell ⟨w.heap.size + 1 + 1, K, none⟩ (.bool true)).heap.size = wr.heap.size := by simp [World.setCell]
          show _ ≤ (w3.heap.push _).size
          simp; omega
        have HO4 : Hid _ := hown4
        have HNW : Hid _ := hnw
        have HH1 : Hid _ := h1c
        have HX3 : Hid _ := x3
        have HST5 : Hid (∀ w5 : World, w5.heap[w.heap.size]? = some (.cells (av c.st) 30 (0, 0)) → (w5.cell? ⟨w.heap.size, K, none⟩ = some (.int .i64 (c.st.getD K 0)) ∧ w5.frozen? ⟨w.heap.size, K, none⟩ = false)) := fun w5 h5 => ⟨by rw [cell_of_row _ _ _ _ _ _ h5]; exact av_get _ _ (by rw [hok.stl]; exact hK), frozen_of_row w5 _ K _ 30 h5⟩
        clear HST hin hown4 hnw h1c x3
        go_wp2_with (first
          | (go_at_call_of 32 (Value.int IntKind.i64 Bz); refine (HR1.out _).mono ?_; rintro e w2 ⟨rfl, hw⟩; subst w2)
          | (go_at_call_of 32 (Value.int IntKind.i64 Vz); refine (HR2.out _).mono ?_; rintro e w2 ⟨rfl, hw⟩; subst w2)
          | (go_at_call 22; refine (block_any _ _).mono ?_; rintro e w3 ⟨g, rfl, hg3, hge3, hb3⟩)
          | (at_builtin; refine wpList_append_own _ rfl _ _ 34 rfl w.heap.size 49 i0 (.agg #[.int .i64 0, .slice none 0 0]) 2 32 Tryd.underlying34 hi hz0 hz1 hz2 rfl (by decide) u6 c.hl.length (chv c.hl gs) rfl (HO4.out w3 g hb3) ⟨w3.heap.size, 0, none⟩ 1 1 [Value.int .i64 (245 + (K : Int)), .slice (some ⟨g, 0, none⟩) 512 512] rfl rfl (HNW.out w3 g) (HH1.out g) x1 x2 (HX3.out w3 g hb3) ?_; intro v' w5 hown5 hg5 hnil5; obtain ⟨hN, hs5⟩ := hA.step hok.len hK hb3 hg3 hge3 hg5 hown5; obtain ⟨cs5, fs5⟩ := HST5.out w5 hs5; have HN : Hid _ := hN; clear hN hs5))
        exact ⟨⟨k + 1, gs ++ [g], by omega, by go_num, by rw [HST2.out]; exact HN.out⟩, by simp [intOf]; omega⟩
    · obtain rfl : k = cl.length := by omega
      rw [List.take_length] at hA
      have hok := csOk cl st hst
      have hu := Tryd.underlying30
      have hs30 : (Tryd.prog.info? 30).map (·.size) = some ((csOf cl st).st.map (Value.int .i64)).length := by rw [List.length_map, hok.stl]; kernel_rfl
      have q4 : ∀ w' : World, w'.heap[w.heap.size]? = wr.heap[w.heap.size]? → w'.rangeAt w.heap.size 0 ((csOf cl st).st.map (Value.int .i64)) := fun w' hw j v hj => by
        rw [cell_of_row _ w.heap.size (0 + j) _ 30 (0, 0) (hw.trans hA.st), Nat.zero_add]
        simpa [av] using hj
      obtain ⟨A, hA1, hA2⟩ := hA.res
      have HA : Hid _ := hA
      go_wp2
      refine wp_region_still_tail 3 (by kernel_rfl) (by kernel_rfl) ?_
      simp only [List.take_succ_cons, List.take_zero, List.drop_succ_cons, List.drop_zero]
      repeat (first | (refine still_load_mid (by rfl) 30 _ (by rfl) w.heap.size 0 (by rfl) ((csOf cl st).st.map (Value.int .i64)) _ (q4 _ (by rfl)) hu rfl hs30 ?_) | still_step)
      refine wpStill_nil ?_
      have hsz : A.size = ((csOf cl st).st.map (Value.int .i64)).toArray.size := by rw [hA2]; simp [hok.stl]
      have hall : ((csOf cl st).st.map (Value.int .i64)).toArray.all (·.oneCell') = true := by
        simp only [List.all_toArray, List.all_eq_true]
        intro u hu2
        obtain ⟨_, _, rfl⟩ := List.mem_map.1 hu2
        rfl
      have hg1 : wr.drew.heap[w.heap.size + 1]? = some (.cells A 30 (0, 0)) := hA1
      refine wpList_store_row rfl 30 _ _ rfl (w.heap.size + 1) ((csOf cl st).st.map (Value.int .i64)).toArray rfl rfl 30 A hg1 (by rw [List.size_toArray]; exact hs30) hsz hall ?_
      go_wp2
      have hrow : (wr.drew.setRow (w.heap.size + 1) ((csOf cl st).st.map (Value.int .i64)).toArray).heap[w.heap.size + 1]? = some (.cells (av (csOf cl st).st) 30 (0, 0)) := setRow_heap _ _ _ _ _ _ hg1
      refine bodyPost_ret (v := .tuple #[u6, .agg (av (csOf cl st).st)]) ?_ rfl ?_
      · exact results_tmp_row (by rfl) _ _ _ (w.heap.size + 1) 30 (av (csOf cl st).st) (0, 0) _ rfl rfl hrow Tryd.underlying30 rfl (by simpa [av] using hs30)
      · have h := HA.out
        have oth : ∀ x, x ≠ w.heap.size + 1 → (wr.drew.setRow (w.heap.size + 1) ((csOf cl st).st.map (Value.int .i64)).toArray).heap[x]? = wr.heap[x]? := fun x hx => setRow_other _ _ _ _ hx
        refine ⟨u6, gs, rfl, owns_blk49 h.own (fun b e => oth b (fun q => own49_ne h.own hA1 (by decide) (by rw [e, q]))), h.gsl, fun i hi => ⟨(h.dat i hi).1.blk (oth _ (fun q => ?_)), (h.dat i hi).2⟩, h.bel.trans ⟨rfl, rfl, rfl, by simp, fun x hx => oth x (by omega)⟩⟩
        have := (h.dat i hi).1
        unfold Full at this
        rw [q, hA1] at this
        injection this with q1
        injection q1 with _ q2
        exact absurd q2 (by decide)
end Go.Proofs.YtmodjgailmpfmaaDoor
