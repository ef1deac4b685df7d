/- The document's device: Flush. -/
import Derived.Test.YtlieckifnkngnaaRw
namespace Go.Proofs.Ytlieckifnkngnaa
set_option linter.unusedSimpArgs false
set_option linter.unusedVariables false
open Go.RowKit Go.MapKept
theorem wrap_small {x : Int} (h0 : 0 ≤ x) (h1 : x ≤ 9223372036854775807) : IntKind.i64.wrap x = x := by
  simp only [IntKind.wrap, IntKind.bits, IntKind.signed]
  simp
  omega
/-- The first blocks are flushed. -/
def Dv.flTo (d : Dv) (k : Nat) : Dv := { d with base := fun x => if x < k then d.cur x else d.base x, pend := fun x => if x < k then [] else d.pend x }
theorem Dv.Ok.flTo {d : Dv} (h : d.Ok) (k : Nat) : (d.flTo k).Ok := by
  refine ⟨h.n1, h.n2, h.ops, h.left, fun x => ?_, fun x y hy => ?_, fun x => ?_⟩
  · simp only [Dv.flTo]; split
    · exact h.cur x
    · exact h.base x
  · simp only [Dv.flTo] at hy; split at hy
    · simp at hy
    · exact h.pend x y hy
  · simp only [Dv.flTo]; split
    · simp
    · exact h.count x
section
variable {B : Nat} {w w' : World} {q gB cB gP cP : Nat} {bs ps : List Value} {rs : Nat → List Value} {G : List Nat} {d : Dv} {last : Int}
theorem RefAt.re (h : RefAt B w q gB cB gP cP bs ps rs G d last) (d' : Dv) (hn : d'.n = d.n) (h1 : d'.ops = d.ops) (h2 : d'.cut = d.cut) (h3 : d'.left = d.left) (hb : ∀ k, k < d.n → d'.base k = d.base k) (hp : ∀ k, k < d.n → d'.pend k = d.pend k) (hok : d'.Ok) : RefAt B w q gB cB gP cP bs ps rs G d' last := by
  refine ⟨by rw [hn, h1]; exact h.cells, by rw [hn]; exact h.bo, by rw [hn]; exact h.po, fun k hk => ?_, fun k hk => ?_, fun k j hk hj => ?_, by rw [hn]; exact h.ap, by rw [hn]; exact h.nb, by rw [hn]; exact h.gin, h.glt, hok, h.lk.congr h2 h3 h1⟩
  · rw [hn] at hk; rw [hp k hk]; exact h.ro k hk
  · rw [hn] at hk; rw [hb k hk]; exact h.by' k hk
  · rw [hn] at hk; rw [hp k hk] at hj ⊢; exact h.pby k j hk hj
/-- One block is flushed. -/
theorem RefAt.settle (h : RefAt B w q gB cB gP cP bs ps rs G d last) (k m : Nat) (hk : k < d.n) (hm : (d.pend k).length = m + 1) (hok : (Dv.mk d.n (fun x => if x = k then (d.pend k).getD m [] else d.base x) (fun x => if x = k then [] else d.pend x) d.ops d.cut d.left).Ok) :
    RefAt B ((w.setCell ⟨gB, k, none⟩ ((rs k).getD m undef)).setCell ⟨gP, k, none⟩ (.slice none 0 0)) q gB cB gP cP (bs.set k ((rs k).getD m undef)) (ps.set k (.slice none 0 0)) (fun x => if x = k then [] else rs x) G (Dv.mk d.n (fun x => if x = k then (d.pend k).getD m [] else d.base x) (fun x => if x = k then [] else d.pend x) d.ops d.cut d.left) last ∧
      Keeps G w ((w.setCell ⟨gB, k, none⟩ ((rs k).getD m undef)).setCell ⟨gP, k, none⟩ (.slice none 0 0)) := by
  obtain ⟨g1, g2, g3, g4⟩ := h.gin
  obtain ⟨⟨cB', hB'⟩, cP', hP'⟩ := h.gbne
  have hps : ps.length = d.n := by have := h.po.1; omega
  have hbs : bs.length = d.n := by have := h.bo.1; omega
  have gne : gB ≠ gP := ne_of_type hB' hP' (by decide)
  have S : ∀ x, x ≠ gB → x ≠ gP → ((w.setCell ⟨gB, k, none⟩ ((rs k).getD m undef)).setCell ⟨gP, k, none⟩ (.slice none 0 0)).heap[x]? = w.heap[x]? := fun x h1 h2 =>
    (heap_setCell_other _ ⟨gP, k, none⟩ x _ h2).trans (heap_setCell_other w ⟨gB, k, none⟩ x _ h1)
  have own : ∀ i, i < d.n → ∀ x, (ps.getD i undef).ownBlock = some x → ∃ cur, w.heap[x]? = some (.cells cur 39 (0, 0)) := fun i hi x hx => by
    obtain ⟨cur, hc, _⟩ := owns_blk' (h.ro i hi) hx
    exact ⟨cur, hc⟩
  have S5 : ∀ x ∈ G, ∀ cs fr, w.heap[x]? = some (.cells cs 5 fr) → ((w.setCell ⟨gB, k, none⟩ ((rs k).getD m undef)).setCell ⟨gP, k, none⟩ (.slice none 0 0)).heap[x]? = w.heap[x]? := fun x _ cs fr hc => S x (ne_of_type hc hB' (by decide)) (ne_of_type hc hP' (by decide))
  have gs : ∀ i, (ps.set k (.slice none 0 0)).getD i undef = if i = k then .slice none 0 0 else ps.getD i undef := fun i => getD_set' _ _ _ _ _ (by omega)
  refine ⟨⟨?_, ?_, ?_, ?_, ?_, ?_, ?_, ?_, ⟨g1, g2, g3, ?_⟩, ?_, hok, h.lk.congr rfl rfl rfl⟩, ?_⟩
  · exact (S q (ne_of_type h.cells hB' (by decide)) (ne_of_type h.cells hP' (by decide))).trans h.cells
  · exact ownsRow_setCell_other (h.bo.stored k _).1 (by intro e; exact gne (Option.some.inj e)) _
  · have := ownsRow_setCell_other h.po (a := ⟨gB, k, none⟩) (by intro e; exact gne (Option.some.inj e).symm) ((rs k).getD m undef)
    exact (this.stored k _).1
  · intro i hi
    rw [gs]
    by_cases hik : i = k
    · subst hik; simp only [if_true, List.length_nil]; exact owns_nil _ _ _
    · simp only [if_neg hik]
      refine owns_same' (h.ro i hi) fun x hx => ?_
      obtain ⟨cur, hc⟩ := own i hi x hx
      exact S x (fun e => h.nb i hi (e ▸ hx)) (ne_of_type hc hP' (by decide))
  · intro i hi
    rw [getD_set' _ _ _ _ _ (by omega)]
    by_cases hik : i = k
    · subst hik; simp only [if_true]; exact (h.pby i m hi (by omega)).blk S5 (fun _ x => x)
    · simp only [if_neg hik]; exact (h.by' i hi).blk S5 (fun _ x => x)
  · intro i j hi hj
    by_cases hik : i = k
    · subst hik; simp at hj
    · simp only [if_neg hik] at hj ⊢; exact (h.pby i j hi hj).blk S5 (fun _ x => x)
  · intro i j hi hj hij x hx hy
    rw [gs] at hx hy
    by_cases hik : i = k
    · rw [if_pos hik] at hx; cases hx
    · by_cases hjk : j = k
      · rw [if_pos hjk] at hy; cases hy
      · rw [if_neg hik] at hx; rw [if_neg hjk] at hy
        exact h.ap i j hi hj hij x hx hy
  · intro i hi hx
    rw [gs] at hx
    by_cases hik : i = k
    · rw [if_pos hik] at hx; cases hx
    · rw [if_neg hik] at hx; exact h.nb i hi hx
  · intro i hi x hx
    rw [gs] at hx
    by_cases hik : i = k
    · rw [if_pos hik] at hx; cases hx
    · rw [if_neg hik] at hx; exact g4 i hi x hx
  · intro x hx
    simpa [World.setCell] using h.glt x hx
  · exact ((Keeps.refl G w).setCell _ _ (.inl g2)).setCell _ _ (.inl g3)
theorem RefAt.drew (h : RefAt B w q gB cB gP cP bs ps rs G d last) : RefAt B w.drew q gB cB gP cP bs ps rs G d last := h.blk (fun _ _ => rfl) (Nat.le_refl _)
theorem refFlush_off (h : RefAt B w q gB cB gP cP bs ps rs G d last) (ho : d.ops < 1000000) (hon : d.on = false) :
    Calls Try.prog 30 #[.pointer (some ⟨q, 0, none⟩)] w fun e w' => e = .returned (.int .i64 9) ∧ RefAt B w' q gB cB gP cP bs ps rs G d.tick last ∧ Keeps G w w' := by
  have HO : Hid ((!d.on) = true) := by show _ = _; rw [hon]; rfl
  clear hon
  go_enter Try.func30, Try.ntmps30
  go_wp2_with (go_at_call 45; refine (off_any h ho).mono ?_; rintro e w1 ⟨rfl, h1, k1⟩; rw [HO.out])
  go_ret
  exact ⟨rfl, h1, k1⟩
set_option maxRecDepth 100000 in
set_option maxHeartbeats 2000000 in
theorem refFlush_on (h : RefAt B w q gB cB gP cP bs ps rs G d last) (ho : d.ops < 1000000) (hon : d.on = true) :
    Calls Try.prog 30 #[.pointer (some ⟨q, 0, none⟩)] w fun e w' => e = .returned (.int .i64 0) ∧ (∃ bs' ps' rs', RefAt B w' q gB cB gP cP bs' ps' rs' G d.tick.flush last) ∧ Keeps G w w' := by
  have HO : Hid ((!d.on) = false) := by show _ = _; rw [hon]; rfl
  obtain ⟨d1, HD⟩ : ∃ d1, Hid (d.tick = d1) := ⟨_, rfl⟩
  have HOK : Hid d1.Ok := by show d1.Ok; rw [← HD.out]; exact h.ok.tick ho
  have hn2 : d1.n ≤ 65536 := HOK.out.n2
  clear hon
  go_enter Try.func30, Try.ntmps30
  go_wp2_with (go_at_call 45; refine (off_any h ho).mono ?_; rintro e w1 ⟨rfl, h1, k1⟩; rw [HO.out]; rw [HD.out] at h1)
  go_loopw [3] (fun i wr => ∃ (k : Nat) (bs ps : List Value) (rs : Nat → List Value), k ≤ d1.n ∧ i = .int .i64 (k : Int) ∧ RefAt B wr q gB cB gP cP bs ps rs G (d1.flTo k) last ∧ Keeps G w wr) (fun i _ => d1.n - (iof i).toNat)
  case atStart => exact ⟨0, bs, ps, rs, by omega, rfl, h1.re _ rfl rfl rfl rfl (fun _ _ => by simp [Dv.flTo]) (fun _ _ => by simp [Dv.flTo]) (HOK.out.flTo 0), k1⟩
  case round =>
    clear h1 k1
    obtain ⟨k, bs, ps, rs, hk, rfl, hA, hK⟩ := hrel
    have c0 : wr.cell? ⟨q, 0, none⟩ = some (.slice (some ⟨gB, 0, none⟩) d1.n cB) := hA.c.1
    have c1 : wr.cell? ⟨q, 1, none⟩ = some (.slice (some ⟨gP, 0, none⟩) d1.n cP) := hA.c.2.1
    by_cases hkn : k < d1.n
    · have hkI : (k : Int) < (d1.n : Int) := by omega
      have hp := hA.pcell k hkn
      have hro := hA.ro k hkn
      have hpk : (d1.flTo k).pend k = d1.pend k := by simp [Dv.flTo]
      rw [hpk] at hro
      have HSK : Hid ((d1.pend k).length = 0 → RefAt B wr q gB cB gP cP bs ps rs G (d1.flTo (k + 1)) last) := fun h0 => by
        have he : d1.pend k = [] := List.length_eq_zero_iff.1 h0
        refine hA.re _ rfl rfl rfl rfl (fun x _ => ?_) (fun x _ => ?_) (HOK.out.flTo (k + 1))
        · by_cases hx : x = k
          · subst hx; simp [Dv.flTo, Dv.cur, Dv.at, he]
          · simp [Dv.flTo, show (x < k + 1) = (x < k) from propext (by omega)]
        · by_cases hx : x = k
          · subst hx; simp [Dv.flTo, he]
          · simp [Dv.flTo, show (x < k + 1) = (x < k) from propext (by omega)]
      have HST : Hid (∀ m, (d1.pend k).length = m + 1 → ∃ bs' ps' rs', RefAt B ((wr.setCell ⟨gB, k, none⟩ ((rs k).getD m undef)).setCell ⟨gP, k, none⟩ (.slice none 0 0)) q gB cB gP cP bs' ps' rs' G (d1.flTo (k + 1)) last ∧ Keeps G w ((wr.setCell ⟨gB, k, none⟩ ((rs k).getD m undef)).setCell ⟨gP, k, none⟩ (.slice none 0 0))) := fun m hm => by
        have e : Dv.mk (d1.flTo k).n (fun x => if x = k then ((d1.flTo k).pend k).getD m [] else (d1.flTo k).base x) (fun x => if x = k then [] else (d1.flTo k).pend x) (d1.flTo k).ops (d1.flTo k).cut (d1.flTo k).left = d1.flTo (k + 1) := by
          simp only [Dv.flTo, Dv.mk.injEq, true_and, and_true]
          refine ⟨funext fun x => ?_, funext fun x => ?_⟩
          · by_cases hx : x = k
            · subst hx; simp [Dv.cur, Dv.at, hm]
            · simp [hx, show (x < k + 1) = (x < k) from propext (by omega)]
          · by_cases hx : x = k
            · subst hx; simp
            · simp [hx, show (x < k + 1) = (x < k) from propext (by omega)]
        have := hA.settle k m hkn (by rw [hpk]; exact hm) (by rw [e]; exact HOK.out.flTo (k + 1))
        rw [e] at this
        exact ⟨_, _, _, this.1, hK.trans this.2 (fun x hx => .inl hx)⟩
      have hcnt : (d1.pend k).length ≤ 1000000 := by have := HOK.out.count k; have := HOK.out.ops; omega
      have hfP : wr.frozen? ⟨gP, k, none⟩ = false := owns_free' hA.po k
      have hfB : wr.frozen? ⟨gB, k, none⟩ = false := owns_free' hA.bo k
      have hbc := hA.bcell k hkn
      have hne : gB ≠ gP := by obtain ⟨⟨_, hB'⟩, _, hP'⟩ := hA.gbne; exact ne_of_type hB' hP' (by decide)
      have hqB : q ≠ gB := by obtain ⟨⟨_, hB'⟩, _, hP'⟩ := hA.gbne; exact ne_of_type hA.cells hB' (by decide)
      rcases owns_shape hro with ⟨hpv, hp0⟩ | ⟨g, pc, hpv, hle⟩
      · rw [hpv] at hp
        have hfin := HSK.out hp0
        clear hA
        go_wp2
        exact ⟨⟨k + 1, bs, ps, rs, by omega, by go_num, hfin, hK⟩, by simp [iof]; omega⟩
      · by_cases hz : (d1.pend k).length = 0
        · rw [hpv, hz] at hp
          have hfin := HSK.out hz
          clear hA
          go_wp2
          exact ⟨⟨k + 1, bs, ps, rs, by omega, by go_num, hfin, hK⟩, by simp [iof]; omega⟩
        · obtain ⟨m, hm⟩ : ∃ m, (d1.pend k).length = m + 1 := ⟨(d1.pend k).length - 1, by omega⟩
          rw [hpv] at hp hro
          rw [hm] at hp hro hle
          have hrc := owns_cell' hro m (by omega)
          obtain ⟨bs', ps', rs', hfin, hkeep⟩ := HST.out m hm
          obtain ⟨b2, cap2, cs2, fr2, hv2, _⟩ := hA.pby k m hkn (by rw [hpk]; omega)
          rw [hv2] at hrc hfin hkeep
          clear hv2
          have hmI : (m : Int) ≤ 1000000 := by omega
          have hwm : IntKind.i64.wrap (m : Int) = (m : Int) := wrap_small (by omega) (by omega)
          have hl1 : (m : Int) < (m : Int) + 1 := by omega
          clear hA hz hm hro hcnt
          go_wp2
          refine wp_region_lat (fun x => x.cell? ⟨q, 0, none⟩ = some (.slice (some ⟨gB, 0, none⟩) d1.n cB) ∧ x.cell? ⟨q, 1, none⟩ = some (.slice (some ⟨gP, 0, none⟩) d1.n cP) ∧ x.cell? ⟨gP, k, none⟩ = some (.slice (some ⟨g, 0, none⟩) (m + 1) pc) ∧ x.cell? ⟨g, m, none⟩ = some (.slice (some ⟨b2, 0, none⟩) 512 cap2)) 17 (by kernel_rfl) ⟨c0, c1, hp, hrc⟩ (fun hHeld => ?_)
          refine lat_take 0 (v := ?_) rfl (by kernel_rfl) (by kernel_rfl) (by kernel_rfl) (by kernel_rfl) (fun _ _ _ h => h) (by rfl) ?_ (by assumption) ?_
          rotate_left
          · (intro w hSw; (try dsimp only at hSw); go_simp <;> with_reducible rfl)
          try simp only [Act.put, List.setIfInBounds_toArray, List.set_cons_zero, List.set_cons_succ]
          refine lat_take 1 (v := ?_) rfl (by kernel_rfl) (by kernel_rfl) (by kernel_rfl) (by kernel_rfl) (fun _ _ _ h => h) (by rfl) ?_ (by assumption) ?_
          rotate_left
          · (intro w hSw; (try dsimp only at hSw); go_simp <;> with_reducible rfl)
          try simp only [Act.put, List.setIfInBounds_toArray, List.set_cons_zero, List.set_cons_succ]
          refine lat_take 2 (v := ?_) rfl (by kernel_rfl) (by kernel_rfl) (by kernel_rfl) (by kernel_rfl) (fun _ _ _ h => h) (by rfl) ?_ (by assumption) ?_
          rotate_left
          · (intro w hSw; (try dsimp only at hSw); go_simp <;> with_reducible rfl)
          try simp only [Act.put, List.setIfInBounds_toArray, List.set_cons_zero, List.set_cons_succ]
          refine lat_take 3 (v := ?_) rfl (by kernel_rfl) (by kernel_rfl) (by kernel_rfl) (by kernel_rfl) (fun _ _ _ h => h) (by rfl) ?_ (by assumption) ?_
          rotate_left
          · (intro w hSw; (try dsimp only at hSw); go_simp <;> with_reducible rfl)
          try simp only [Act.put, List.setIfInBounds_toArray, List.set_cons_zero, List.set_cons_succ]
          refine lat_take 4 (v := ?_) rfl (by kernel_rfl) (by kernel_rfl) (by kernel_rfl) (by kernel_rfl) (fun _ _ _ h => h) (by rfl) ?_ (by assumption) ?_
          rotate_left
          · (intro w hSw; (try dsimp only at hSw); go_simp <;> with_reducible rfl)
          try simp only [Act.put, List.setIfInBounds_toArray, List.set_cons_zero, List.set_cons_succ]
          refine lat_take 5 (v := ?_) rfl (by kernel_rfl) (by kernel_rfl) (by kernel_rfl) (by kernel_rfl) (fun _ _ _ h => h) (by rfl) ?_ (by assumption) ?_
          rotate_left
          · (intro w hSw; (try dsimp only at hSw); go_simp <;> with_reducible rfl)
          try simp only [Act.put, List.setIfInBounds_toArray, List.set_cons_zero, List.set_cons_succ]
          refine lat_take 6 (v := ?_) rfl (by kernel_rfl) (by kernel_rfl) (by kernel_rfl) (by kernel_rfl) (fun _ _ _ h => h) (by rfl) ?_ (by assumption) ?_
          rotate_left
          · (intro w hSw; (try dsimp only at hSw); go_simp <;> with_reducible rfl)
          try simp only [Act.put, List.setIfInBounds_toArray, List.set_cons_zero, List.set_cons_succ]
          refine lat_take 7 (v := ?_) rfl (by kernel_rfl) (by kernel_rfl) (by kernel_rfl) (by kernel_rfl) (fun _ _ _ h => h) (by rfl) ?_ (by assumption) ?_
          rotate_left
          · (intro w hSw; (try dsimp only at hSw); go_simp <;> with_reducible rfl)
          try simp only [Act.put, List.setIfInBounds_toArray, List.set_cons_zero, List.set_cons_succ]
          refine lat_take 8 (v := ?_) rfl (by kernel_rfl) (by kernel_rfl) (by kernel_rfl) (by kernel_rfl) (fun _ _ _ h => h) (by rfl) ?_ (by assumption) ?_
          rotate_left
          · (intro w hSw; (try dsimp only at hSw); go_simp <;> with_reducible rfl)
          try simp only [Act.put, List.setIfInBounds_toArray, List.set_cons_zero, List.set_cons_succ]
          refine lat_take 9 (v := ?_) rfl (by kernel_rfl) (by kernel_rfl) (by kernel_rfl) (by kernel_rfl) (fun _ _ _ h => h) (by rfl) ?_ (by assumption) ?_
          rotate_left
          · (intro w hSw; (try dsimp only at hSw); go_simp <;> with_reducible rfl)
          try simp only [Act.put, List.setIfInBounds_toArray, List.set_cons_zero, List.set_cons_succ]
          refine lat_take 10 (v := ?_) rfl (by kernel_rfl) (by kernel_rfl) (by kernel_rfl) (by kernel_rfl) (fun _ _ _ h => h) (by rfl) ?_ (by assumption) ?_
          rotate_left
          · (intro w hSw; (try dsimp only at hSw); go_simp <;> with_reducible rfl)
          try simp only [Act.put, List.setIfInBounds_toArray, List.set_cons_zero, List.set_cons_succ]
          refine lat_take 11 (v := ?_) rfl (by kernel_rfl) (by kernel_rfl) (by kernel_rfl) (by kernel_rfl) (fun _ _ _ h => h) (by rfl) ?_ (by assumption) ?_
          rotate_left
          · (intro w hSw; (try dsimp only at hSw); go_simp <;> with_reducible rfl)
          try simp only [Act.put, List.setIfInBounds_toArray, List.set_cons_zero, List.set_cons_succ]
          refine lat_take 12 (v := ?_) rfl (by kernel_rfl) (by kernel_rfl) (by kernel_rfl) (by kernel_rfl) (fun _ _ _ h => h) (by rfl) ?_ (by assumption) ?_
          rotate_left
          · (intro w hSw; (try dsimp only at hSw); go_simp <;> with_reducible rfl)
          try simp only [Act.put, List.setIfInBounds_toArray, List.set_cons_zero, List.set_cons_succ]
          refine lat_take 13 (v := ?_) rfl (by kernel_rfl) (by kernel_rfl) (by kernel_rfl) (by kernel_rfl) (fun _ _ _ h => h) (by rfl) ?_ (by assumption) ?_
          rotate_left
          · (intro w hSw; (try dsimp only at hSw); go_simp <;> with_reducible rfl)
          try simp only [Act.put, List.setIfInBounds_toArray, List.set_cons_zero, List.set_cons_succ]
          refine lat_take 14 (v := ?_) rfl (by kernel_rfl) (by kernel_rfl) (by kernel_rfl) (by kernel_rfl) (fun _ _ _ h => h) (by rfl) ?_ (by assumption) ?_
          rotate_left
          · (intro w hSw; (try dsimp only at hSw); go_simp <;> with_reducible rfl)
          try simp only [Act.put, List.setIfInBounds_toArray, List.set_cons_zero, List.set_cons_succ]
          refine lat_take 15 (v := ?_) rfl (by kernel_rfl) (by kernel_rfl) (by kernel_rfl) (by kernel_rfl) (fun _ _ _ h => h) (by rfl) ?_ (by assumption) ?_
          rotate_left
          · (intro w hSw; (try dsimp only at hSw); go_simp <;> with_reducible rfl)
          try simp only [Act.put, List.setIfInBounds_toArray, List.set_cons_zero, List.set_cons_succ]
          refine lat_take 16 (v := ?_) rfl (by kernel_rfl) (by kernel_rfl) (by kernel_rfl) (by kernel_rfl) (fun _ _ _ h => h) (by rfl) ?_ (by assumption) ?_
          rotate_left
          · (intro w hSw; (try dsimp only at hSw); go_simp <;> with_reducible rfl)
          try simp only [Act.put, List.setIfInBounds_toArray, List.set_cons_zero, List.set_cons_succ]
          refine lat_last 17 rfl (by kernel_rfl) (by decide) (by kernel_rfl) (by rfl) (fun K hK => ?_)
          have hbc2 : wr.drew.cell? ⟨gB, k, none⟩ = some (bs.getD k undef) := hbc
          have hfB2 : wr.drew.frozen? ⟨gB, k, none⟩ = false := hfB
          go_simp
          refine hK.out _ _ ?_
          clear hK hHeld
          go_wp2
          exact ⟨⟨k + 1, bs', ps', rs', by omega, by go_num, hfin.drew, hkeep.drew⟩, by simp [iof]; omega⟩
    · obtain rfl : k = d1.n := by omega
      have hfin : RefAt B wr q gB cB gP cP bs ps rs G d1.flush last := hA.re _ rfl rfl rfl rfl (fun x hx => by have : x < d1.n := hx; simp [Dv.flush, Dv.flTo, this]) (fun x hx => by have : x < d1.n := hx; simp [Dv.flush, Dv.flTo, this]) HOK.out.flush
      clear hA
      go_wp2
      go_ret
      rw [HD.out]
      exact ⟨rfl, ⟨bs, ps, rs, hfin⟩, hK⟩
end
end Go.Proofs.Ytlieckifnkngnaa
