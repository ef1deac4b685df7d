/- JournalCrash's walk. -/
import Derived.Test.YtmodjgailmpfmaaDoorLv
namespace Go.Proofs.YtmodjgailmpfmaaDoor
set_option linter.unusedSimpArgs false
set_option linter.unusedVariables false
open Go.RowKit Go.MapKept Go.Proofs
theorem JE.mono {B : Nat} {E : List Nat} {w : World} {j dp : Nat} {st : List Int} {M M' : Nat} (h : JE B E w j dp st M) (hM : M ≤ M') : JE B E w j dp st M' := by
  obtain ⟨d, T, h1, h2, h3, h4⟩ := h; exact ⟨d, T, h1, h2, h3, by omega⟩
/-- The world with t's box. -/
def W1x (wr : World) (st : List Int) : World := (wr.alloc (.cells (av z30) 30)).setRow wr.heap.size (av st)
set_option maxRecDepth 100000 in
set_option maxHeartbeats 4000000 in
theorem journalCrash_walk (a0 : Option Addr) (cap0 : Nat) (l0 : List Stp) (a1 : Int) (a2 : Option Addr) (cap2 : Nat) (l2 : List Int) (a3 : Option Addr) (cap3 : Nat) (l3 : List Int) (w : World) (ht : Tab w) (w0 : SRow w a0 l0) (m0 : l0.length ≤ 9223372036854775807) (w1 : (Lit.int .i64 a1).wf = true) (w2 : RowI w a2 l2) (m2 : l2.length ≤ maxLen) (w3 : RowI w a3 l3) (m3 : l3.length ≤ maxLen) :
    Calls Tryd.prog 7 #[.slice a0 l0.length cap0, .int .i64 a1, .slice a2 l2.length cap2, .slice a3 l3.length cap3] w fun e w' => e = .returned (.bool true) ∧ Below w.heap.size w w' := by
  have hF := Fr.law ht
  have HAW : Hid _ := awake_any hF
  have HF : Hid _ := fresh_any hF
  obtain ⟨z1, z2⟩ := bd64 w1
  have m0I : (l0.length : Int) ≤ 9223372036854775807 := by omega
  have m2n : l2.length ≤ 9223372036854775807 := by unfold maxLen at m2; omega
  have m2I : (l2.length : Int) ≤ 9223372036854775807 := by omega
  have m3n : l3.length ≤ 9223372036854775807 := by unfold maxLen at m3; omega
  have HSM : Hid _ := small_any a0 cap0 l0 w w0 m0
  have HR : Hid (∀ w', Fr w.heap.size [] w w' → SRow w' a0 l0) := fun w' h => w0.below h.bel
  have HP : Hid (∀ w', Fr w.heap.size [] w w' → RowI w' a2 l2) := fun w' h i hi => by
    obtain ⟨b, off, e, h1, h2⟩ := w2 i hi
    exact ⟨b, off, e, by rw [h.bel.cell (World.block_lt_of_cell? _ _ h1)]; exact h1, h2⟩
  have HP3 : Hid (∀ w', Fr w.heap.size [] w w' → RowI w' a3 l3) := fun w' h i hi => by
    obtain ⟨b, off, e, h1, h2⟩ := w3 i hi
    exact ⟨b, off, e, by rw [h.bel.cell (World.block_lt_of_cell? _ _ h1)]; exact h1, h2⟩
  have hzz := info30 z30 z30_len
  have honez := av_one z30
  clear hF ht w0 w1 w2 m2 w3 m3
  go_enter Tryd.func7, Tryd.ntmps7
  go_wp2_with (first
    | (go_at_call 14; refine Calls.mono HSM.out ?_; rintro e w2 ⟨bs, rfl, hb40, hw⟩; subst w2; have HB40 : Hid (bs = true → l0.length ≤ 40) := hb40; clear hb40; cases bs)
    | (go_at_call 15; refine Calls.mono HAW.out ?_; rintro e wA ⟨rfl, hFA⟩)
    | (go_at_call 16; refine Calls.mono HF.out ?_; rintro e w3 ⟨dp, j, d, rfl, hF3, hJ3, hR3, hn3, hc3, ho3⟩; have hCU := JC.cut hF3 hJ3 hR3 hn3 ho3 a1 z2; clear hF3 hJ3 hR3 hn3 hc3 ho3)
    | (go_at_call 30; refine Calls.mono hCU ?_; rintro e w4 ⟨⟨v4, rfl⟩, hJC⟩; clear hCU; have xz := hJC.box; have ez := heap_alloc_new (w4.alloc (.cells (av z30) 30)) (.cells (av z30) 30); rw [show (w4.alloc (.cells (av z30) 30)).heap.size = w4.heap.size + 1 by show (w4.heap.push _).size = _; simp] at ez)
    | (have _h := xz; refine wpList_load_row rfl 30 _ rfl w4.heap.size rfl 30 (av z30) (0, 0) _ xz Tryd.underlying30 rfl hzz ?_; clear _h xz)
    | (have _h := ez; refine wpList_store_row rfl 30 _ _ rfl (w4.heap.size + 1) (av z30) rfl rfl 30 (av z30) ez hzz rfl honez ?_; clear _h ez))
  · go_ret
    exact ⟨rfl, hFA.bel⟩
  · go_ret
    exact ⟨rfl, hFA.bel⟩
  rotate_left
  · go_ret
    exact ⟨rfl, hFA.bel⟩
  · go_ret
    exact ⟨rfl, hFA.bel⟩
  have h40 : l0.length ≤ 40 := HB40.out (by trivial)
  have h40I : (l0.length : Int) ≤ 40 := by omega
  have HQ0 : Hid (QS w.heap.size w (((w4.alloc (.cells (av z30) 30)).alloc (.cells (av z30) 30)).setRow (w4.heap.size + 1) (av z30)) w4.heap.size (w4.heap.size + 1) z30 j dp 3) := QS.start hJC
  clear hJC HF HAW HSM HB40
  obtain ⟨bm, HBM⟩ : ∃ bm, Hid (w4.heap.size + 1 = bm) := ⟨_, rfl⟩
  have hBM := HBM.out
  rw [hBM] at HQ0 ⊢
  clear HBM hBM
  obtain ⟨bs, HBS⟩ : ∃ bs, Hid (w4.heap.size = bs) := ⟨_, rfl⟩
  have hBS := HBS.out
  rw [hBS] at HQ0 ⊢
  clear HBS hBS
  have HTC : Hid (∀ wx st sm, TZ w.heap.size w wx bs bm st sm dp → Calls Tryd.prog 29 #[.pointer (some ⟨dp, 0, none⟩), .slice a2 l2.length cap2] wx fun e w' => ∃ c, e = .returned (.pointer (some ⟨c, 0, none⟩)) ∧ Calls Tryd.prog 31 #[.pointer (some ⟨c, 0, none⟩), .slice a3 l3.length cap3, .slice a2 l2.length cap2] w' (ZOpen w.heap.size w bs bm st sm)) := fun wx st sm h => h.crash a2 a3 l2 l3 cap2 cap3 HP.out HP3.out m2n m3n
  have HBB : Hid (∀ s st sm, (s = st ∨ s = sm) → isB (absS s) st = false → isB (absS s) sm = true) := by
    rintro s st sm (rfl | rfl) h
    · rw [isB_self] at h; cases h
    · exact isB_self _
  go_loopw [14] (fun i wr => ∃ k st, k ≤ l0.length ∧ i = .int .i64 ((k : Nat) : Int) ∧ QS w.heap.size w wr bs bm st j dp (3 + 345 * k)) (fun i _ => l0.length - (intOf i).toNat)
  case atStart => exact ⟨0, z30, by omega, rfl, HQ0.out⟩
  case round =>
    clear HQ0
    obtain ⟨k, st, hk, rfl, hS⟩ := hrel
    by_cases hlt : k < l0.length
    · have hltI : (k : Int) < (l0.length : Int) := by omega
      obtain ⟨lk, off, rfl, r1, r2, r3, r4⟩ := HR.out wr hS.1 k hlt
      generalize l0.getD k stp0 = sp at *
      obtain ⟨kd, ca, cl, ccap⟩ := sp
      dsimp only at r1 r2 r3 r4
      have hst := hS.2.2.2.2.2.2.1
      have hB1 := hS.2.1
      have hB2 := hS.2.2.1
      have hne := hS.2.2.2.1
      have hok := csOk cl st hst
      have hzs := info30 st hst
      have hz2c := info30 _ hok.stl
      have hone := av_one (csOf cl st).st
      have hones := av_one st
      have hsz : (av z30).size = (av (csOf cl st).st).size := by rw [av_size, av_size, hok.stl]; rfl
      have hszs : (av z30).size = (av st).size := by rw [av_size, av_size, hst]; rfl
      have hszss : (av st).size = (av st).size := rfl
      have hsz2 : (av st).size = (av (csOf cl st).st).size := by rw [av_size, av_size, hok.stl, hst]
      have hne' : bm ≠ bs := fun e => hne e.symm
      have hwk : IntKind.i64.wrap (k : Int) = (k : Int) := wrap_small _ (by omega) (by omega)
      have hkI0 : (0 : Int) ≤ (k : Int) := by omega
      have ez := heap_alloc_new wr (.cells (av z30) 30)
      have hS0 : wr.heap[bs]? = some (.cells (av st) 30 (0, 0)) := hS.2.2.2.2.1
      have qZ : ∀ Z : Array Value, Below wr.heap.size wr ((wr.alloc (.cells Z 30)).setRow wr.heap.size (av st)) := fun Z => (boxed wr Z (av st)).1
      have q1 : Below wr.heap.size wr (W1x wr st) := qZ _
      have hszW : (W1x wr st).heap.size = wr.heap.size + 1 := (boxed wr (av z30) (av st)).2.2
      have hx3 : Bx (W1x wr st) wr.heap.size st := (boxed wr (av z30) (av st)).2.1
      have hDb : Below (W1x wr st).heap.size (W1x wr st) (W1x wr st).drew := ⟨rfl, rfl, rfl, Nat.le_refl _, fun _ _ => rfl⟩
      have q1d : Below wr.heap.size wr (W1x wr st).drew := q1.trans (hDb.mono q1.size)
      have hbs := Bx.lt hS.2.2.2.2.1
      have hbm := Bx.lt hS.2.2.2.2.2.1
      have hE : ∀ x ∈ [bs, bm, wr.heap.size], x < (W1x wr st).heap.size := fun x hx => by rw [hszW]; simp at hx; omega
      have hF1 := hS.1.below q1
      have hJ1 : JE w.heap.size [bs, bm, wr.heap.size] (W1x wr st) j dp st (3 + 345 * k) := (hS.2.2.2.2.2.2.2.ext (fun x hx => by simp at hx; rcases hx with rfl | rfl | rfl; exact .inl (by simp); exact .inl (by simp); exact .inr (Nat.le_refl _))).below q1
      have hB3 : w.heap.size ≤ wr.heap.size := Nat.le_trans hS.1.big hS.1.size
      have hx1 := Bx.below hS.2.2.2.2.1 q1
      have hx2 := Bx.below hS.2.2.2.2.2.1 q1
      have r1g : ∀ Z : Array Value, ((wr.alloc (.cells Z 30)).setRow wr.heap.size (av st)).cell? ⟨lk, off + k * 2, none⟩ = some (.int .i64 kd) := fun Z => ((qZ Z).cell (World.block_lt_of_cell? _ _ r1)).trans r1
      have r2' : (W1x wr st).cell? ⟨lk, off + k * 2 + 1, none⟩ = some (.slice ca cl.length ccap) := (q1.cell (World.block_lt_of_cell? _ _ r2)).trans r2
      have HOKN : Hid (∀ x w9 M, x.length = 30 → Fr w.heap.size [] w w9 → Bx w9 bs st → Bx w9 bm st → JE w.heap.size [bs, bm, wr.heap.size] w9 j dp x M → QS w.heap.size w ((w9.setRow bs (av x)).setRow bm (av x)) bs bm x j dp M) := fun x w9 M hx h1 h2 h3 h4 => qs_ok hB1 hB2 hne hx h1 h2 h3 h4
      have HOFF : Hid (∀ x w9, x.length = 30 → Fr w.heap.size [] w w9 → Bx w9 bs st → Bx w9 bm st → DX w.heap.size [bs, bm, wr.heap.size] w9 dp st x → TZ w.heap.size w (w9.setRow bm (av x)) bs bm st x dp) := fun x w9 hx h1 h2 h3 h4 => qs_off hB2 hne hst hx h1 h2 h3 h4
      by_cases hk1 : kd = 1
      · subst hk1
        have honex := hone
        have hszx := hsz2
        have hzm := hz2c
        have HSx : Hid (∀ x, Below (W1x wr st).heap.size (W1x wr st) x → x.cell? ⟨lk, off + k * 2 + 1, none⟩ = some (.slice ca cl.length ccap) ∧ x.heap[bs]? = some (.cells (av st) 30 (0, 0)) ∧ Below (W1x wr st).heap.size (W1x wr st) x) := fun x hb => ⟨by rw [hb.cell (World.block_lt_of_cell? _ _ r2')]; exact r2', Bx.below hx1 hb, hb⟩
        have HCC : Hid (∀ wx, Below (W1x wr st).heap.size (W1x wr st) wx → Calls Tryd.prog 17 #[.slice ca cl.length ccap, .agg (av st)] wx (ChgOut wx cl st)) := fun wx hb => changes_out ca ccap cl st wx ((r3.below q1).below hb) r4 hst
        have key : ∀ w8 b4 v, Made (W1x wr st).drew w8 b4 cl st v → w8.heap[b4]? = some (.cells (av (csOf cl st).st) 30 (0, 0)) ∧ w8.heap[wr.heap.size]? = some (.cells (av st) 30 (0, 0)) ∧ Calls Tryd.prog 18 #[.pointer (some ⟨j, 0, none⟩), v] (w8.setRow wr.heap.size (av (csOf cl st).st)) (CP w.heap.size w bs bm wr.heap.size st (csOf cl st).st j dp (3 + 345 * k + 345)) := fun w8 b4 v hm => by
          obtain ⟨y8, hb8, hb4, Ex, hEx, hC⟩ := hm
          have hb8' : Below (W1x wr st).heap.size (W1x wr st) w8 := hDb.trans (hb8.mono (Nat.le_refl _))
          have x8 := Bx.below hx3 hb8'
          refine ⟨y8, x8, (commit_c (E := [bs, bm, wr.heap.size]) hst (hF1.below hDb) hB3 hE (by simp) (hJ1.below hDb) (by omega) hb8 hEx hC).mono (fun e w' h => h.cp ?_ ?_ ?_)⟩
          · exact (Bx.below hx1 hb8').oth (by omega) _
          · exact (Bx.below hx2 hb8').oth (by omega) _
          · exact Bx.set x8 _
        have HCMA : Hid (∀ w6 v, ChgPost (W1x wr st).drew cl st (.returned (.tuple #[v, .agg (av (csOf cl st).st)])) w6 → _) := fun w6 v h6 => key _ _ _ (made_a hst (av z30) h6)
        have HCMB : Hid (∀ w6 v, ChgPost ((W1x wr st).drew.alloc (.cells (av z30) 30)) cl st (.returned (.tuple #[v, .agg (av (csOf cl st).st)])) w6 → (w6.setRow (wr.heap.size + 1) (av (csOf cl st).st)).heap[wr.heap.size + 1]? = some (.cells (av (csOf cl st).st) 30 (0, 0)) ∧ (w6.setRow (wr.heap.size + 1) (av (csOf cl st).st)).heap[wr.heap.size]? = some (.cells (av st) 30 (0, 0)) ∧ Calls Tryd.prog 18 #[.pointer (some ⟨j, 0, none⟩), v] ((w6.setRow (wr.heap.size + 1) (av (csOf cl st).st)).setRow wr.heap.size (av (csOf cl st).st)) (CP w.heap.size w bs bm wr.heap.size st (csOf cl st).st j dp (3 + 345 * k + 345))) := fun w6 v h6 => by
          have := made_b hst h6
          rw [show (W1x wr st).drew.heap.size = wr.heap.size + 1 from hszW] at this
          exact key _ _ _ this
        have HE6 : Hid (∀ w6, Below ((W1x wr st).drew.alloc (.cells (av z30) 30)).heap.size ((W1x wr st).drew.alloc (.cells (av z30) 30)) w6 → w6.heap[wr.heap.size + 1]? = some (.cells (av z30) 30 (0, 0))) := fun w6 hb => by
          have e := heap_alloc_new (W1x wr st).drew (.cells (av z30) 30)
          rw [show (W1x wr st).drew.heap.size = wr.heap.size + 1 from hszW] at e
          exact (hb.block _ (Array.getElem?_eq_some_iff.1 e).1).trans e
        have hcst := hok.stl
        clear hS r3 hok hbs hbm hE hF1 hJ1 hx1 hx2 hx3 r1 r2 r2' q1 q1d qZ hszW key HR HP HP3
        go_wp2_with (first
          | (have _h := hS0; refine wpList_load_row rfl 30 _ rfl bs rfl 30 (av st) (0, 0) _ hS0 Tryd.underlying30 rfl hzs ?_; clear _h hS0)
          | (have _h := ez; refine wpList_store_row rfl 30 _ _ rfl wr.heap.size (av st) rfl rfl 30 (av z30) ez hzs hszs hones ?_; clear _h ez))
        refine wp_region_lat (fun x => x.cell? ⟨lk, off + k * 2 + 1, none⟩ = some (.slice ca cl.length ccap) ∧ x.heap[bs]? = some (.cells (av st) 30 (0, 0)) ∧ Below (W1x wr st).heap.size (W1x wr st) x) 12 (by kernel_rfl) (HSx.out (W1x wr st).drew hDb) (fun hHeld => ?_)
        refine lat_take 0 (v := ?_) rfl (by kernel_rfl) (by kernel_rfl) (by kernel_rfl) (by kernel_rfl) (fun _ _ _ h => h) (by rfl) ?_ (by assumption) ?_
        rotate_left
        · (intro w hSw; (try dsimp only at hSw); go_simp <;> with_reducible rfl)
        try simp only [Act.put, List.setIfInBounds_toArray, List.set_cons_zero, List.set_cons_succ]
        refine lat_take 1 (v := ?_) rfl (by kernel_rfl) (by kernel_rfl) (by kernel_rfl) (by kernel_rfl) (fun _ _ _ h => h) (by rfl) ?_ (by assumption) ?_
        rotate_left
        · (intro w hSw; (try dsimp only at hSw); go_simp <;> with_reducible rfl)
        try simp only [Act.put, List.setIfInBounds_toArray, List.set_cons_zero, List.set_cons_succ]
        refine lat_take 2 (v := ?_) rfl (by kernel_rfl) (by kernel_rfl) (by kernel_rfl) (by kernel_rfl) (fun _ _ _ h => h) (by rfl) ?_ (by assumption) ?_
        rotate_left
        · (intro w hSw; (try dsimp only at hSw); go_simp <;> with_reducible rfl)
        try simp only [Act.put, List.setIfInBounds_toArray, List.set_cons_zero, List.set_cons_succ]
        refine lat_take 3 (v := ?_) rfl (by kernel_rfl) (by kernel_rfl) (by kernel_rfl) (by kernel_rfl) (fun _ _ _ h => h) (by rfl) ?_ (by assumption) ?_
        rotate_left
        · (intro w hSw; (try dsimp only at hSw); go_simp <;> with_reducible rfl)
        try simp only [Act.put, List.setIfInBounds_toArray, List.set_cons_zero, List.set_cons_succ]
        refine lat_take 4 (v := ?_) rfl (by kernel_rfl) (by kernel_rfl) (by kernel_rfl) (by kernel_rfl) (fun _ _ _ h => h) (by rfl) ?_ (by assumption) ?_
        rotate_left
        · (intro w hSw; (try dsimp only at hSw); go_simp <;> with_reducible rfl)
        try simp only [Act.put, List.setIfInBounds_toArray, List.set_cons_zero, List.set_cons_succ]
        refine lat_take 5 (v := .agg (av st)) rfl (by kernel_rfl) (by kernel_rfl) (by kernel_rfl) (by kernel_rfl) (fun _ _ _ h => h) (by rfl) (fun w hSw => exec_load_row 30 _ rfl bs rfl 30 (av st) (0, 0) _ hSw.2.1 Tryd.underlying30 rfl hzs) (by assumption) ?_
        try simp only [Act.put, List.setIfInBounds_toArray, List.set_cons_zero, List.set_cons_succ]
        refine lat_two 6 10 rfl rfl (by kernel_rfl) (by decide) (by decide) (by rfl) (by rfl) (fun K hK => ?_) (fun K hK => ?_)
        · go_simp
          refine Calls.mono (HCC.out (W1x wr st).drew hDb) ?_
          rintro e w6 ⟨v, rfl, h6⟩
          have hb6 : Below (W1x wr st).heap.size (W1x wr st) w6 := hDb.trans (h6.bel.mono (Nat.le_refl _))
          dsimp only
          refine hK.out _ _ (HSx.out w6 hb6) (fun hHeld2 => ?_)
          clear hK hHeld
          try simp only [Act.put, List.setIfInBounds_toArray, List.set_cons_zero, List.set_cons_succ]
          refine lat_take 7 (v := ?_) rfl (by kernel_rfl) (by kernel_rfl) (by kernel_rfl) (by kernel_rfl) (fun _ _ _ h => h) (by rfl) ?_ (by assumption) ?_
          rotate_left
          · (intro w hSw; (try dsimp only at hSw); go_simp <;> with_reducible rfl)
          try simp only [Act.put, List.setIfInBounds_toArray, List.set_cons_zero, List.set_cons_succ]
          refine lat_take 8 (v := ?_) rfl (by kernel_rfl) (by kernel_rfl) (by kernel_rfl) (by kernel_rfl) (fun _ _ _ h => h) (by rfl) ?_ (by assumption) ?_
          rotate_left
          · (intro w hSw; (try dsimp only at hSw); go_simp <;> with_reducible rfl)
          try simp only [Act.put, List.setIfInBounds_toArray, List.set_cons_zero, List.set_cons_succ]
          refine lat_take 9 (v := ?_) rfl (by kernel_rfl) (by kernel_rfl) (by kernel_rfl) (by kernel_rfl) (fun _ _ _ h => h) (by rfl) ?_ (by assumption) ?_
          rotate_left
          · (intro w hSw; (try dsimp only at hSw); go_simp <;> with_reducible rfl)
          try simp only [Act.put, List.setIfInBounds_toArray, List.set_cons_zero, List.set_cons_succ]
          refine lat_one 10 rfl (by kernel_rfl) (by decide) (by rfl) (fun K hK => ?_)
          go_simp
          have hb7 : Below (W1x wr st).heap.size (W1x wr st) (w6.alloc (.cells (av z30) 30)) := hb6.alloc hb6.size _
          refine hK.out _ _ (HSx.out _ hb7) (fun hHeld3 => ?_)
          clear hK hHeld2
          try simp only [Act.put, List.setIfInBounds_toArray, List.set_cons_zero, List.set_cons_succ]
          refine lat_take 11 (v := ?_) rfl (by kernel_rfl) (by kernel_rfl) (by kernel_rfl) (by kernel_rfl) (fun _ _ _ h => h) (by rfl) ?_ (by assumption) ?_
          rotate_left
          · (intro w hSw; (try dsimp only at hSw); go_simp <;> with_reducible rfl)
          try simp only [Act.put, List.setIfInBounds_toArray, List.set_cons_zero, List.set_cons_succ]
          refine lat_last 12 rfl (by kernel_rfl) (by decide) (by kernel_rfl) (by rfl) (fun K hK => ?_)
          refine wp_store_row 30 _ _ rfl w6.heap.size (av (csOf cl st).st) rfl rfl 30 (av z30) (heap_alloc_new w6 (.cells (av z30) 30)) hz2c hsz hone (hK.out _ _ ?_)
          have HCM := HCMA.out w6 v h6
          clear hK hHeld3 h6 hb6 hb7
          try simp only [Act.put, List.setIfInBounds_toArray, List.set_cons_zero, List.set_cons_succ]
          obtain ⟨y8, x8, HCM2⟩ := HCM
          go_wp2_with (first
            | (have _h := y8; refine wpList_load_row rfl 30 _ rfl w6.heap.size rfl 30 (av (csOf cl st).st) (0, 0) _ y8 Tryd.underlying30 rfl hz2c ?_; clear _h y8)
            | (have _h := x8; refine wpList_store_row rfl 30 _ _ rfl wr.heap.size (av (csOf cl st).st) rfl rfl 30 (av st) x8 hz2c hsz2 hone ?_; clear _h x8)
            | (go_at_call 18; refine Calls.mono HCM2 ?_; rintro e w9 ⟨hF9, s9, m9, t9, hans2⟩; clear HCM2; have HQ : Hid (Bx w9 bs st ∧ Bx w9 bm st) := ⟨s9, m9⟩; rcases hans2 with ⟨rfl, hok9⟩ | ⟨rfl, hoff⟩)
            | (have _h := t9; refine wpList_load_row rfl 30 _ rfl wr.heap.size rfl 30 (av (csOf cl st).st) (0, 0) _ t9 Tryd.underlying30 rfl hz2c ?_; clear _h t9)
            | (have _h := hoff; refine wpList_store_row rfl 30 _ _ rfl bm (av (csOf cl st).st) rfl rfl 30 (av st) m9 hz2c hszx honex ?_; clear _h m9 s9; have hTZ := HOFF.out _ w9 hcst hF9 HQ.out.1 HQ.out.2 hoff; clear hoff)
            | (have _h := s9; refine wpList_store_row rfl 30 _ _ rfl bs (av (csOf cl st).st) rfl rfl 30 (av st) s9 hz2c hszx honex ?_; have s10 := Bx.set s9 (csOf cl st).st; have m10 := Bx.oth m9 hne' (av (csOf cl st).st); clear _h s9 m9)
            | (have _h := s10; refine wpList_load_row rfl 30 _ rfl bs rfl 30 (av (csOf cl st).st) (0, 0) _ s10 Tryd.underlying30 rfl hz2c ?_; clear _h s10)
            | (have _h := m10; refine wpList_store_row rfl 30 _ _ rfl bm (av (csOf cl st).st) rfl rfl 30 (av st) m10 hz2c hszx honex ?_; clear _h m10)
            | (go_at_call 29; have _h := hTZ; refine Calls.mono (HTC.out _ st (csOf cl st).st hTZ) ?_; rintro e w11 ⟨c', rfl, hOP⟩; clear _h hTZ)
            | (go_at_call 31; have _h := hOP; refine Calls.mono hOP ?_; rintro e w12 ⟨dp2, j2, d2, T2, s2, rfl, hF12, x12, y12, l12, l12', hJ12, hR12, hn12, hs2⟩; clear _h hOP)
            | (have _h := x12; refine load_row_g rfl 30 _ rfl bs rfl 30 (av st) (0, 0) _ x12 Tryd.underlying30 rfl hzs ?_; clear _h x12; have tk1 : True := trivial)
            | (go_at_call 24; have _h := tk1; refine (is_any hJ12 hR12 hn12 st l12).mono ?_; rintro e w13 ⟨rfl, hb13⟩; clear _h tk1; have hF13 := hF12.below hb13; have hJ13 := hJ12.below hb13; have y13 := Bx.below y12 hb13; clear y12; have HB2 := HBB.out s2 st (csOf cl st).st hs2; obtain ⟨bq, hbq⟩ : ∃ b, isB (absS s2) st = b := ⟨_, rfl⟩; rw [hbq]; cases bq)
            | (have _h := y13; refine load_row_g rfl 30 _ rfl bm rfl 30 (av (csOf cl st).st) (0, 0) _ y13 Tryd.underlying30 rfl hzm ?_; clear _h y13; have tk2 : True := trivial)
            | (go_at_call 24; have _h := tk2; refine (is_any hJ13 hR12 hn12 (csOf cl st).st l12').mono ?_; rintro e w15 ⟨rfl, hb15⟩; clear _h tk2; rw [HB2 hbq]; have hF15 := hF13.below hb15; clear hF13; have hF13 := hF15)
            | (go_at_call 15; refine (awake_any hF13).mono ?_; rintro e w16 ⟨rfl, hF16⟩))
          · exact ⟨⟨k + 1, _, by omega, by go_num, HOKN.out _ w9 _ hcst hF9 HQ.out.1 HQ.out.2 hok9⟩, by simp [intOf]; omega⟩
          all_goals
            go_ret
            exact ⟨rfl, hF16.bel⟩
        · go_simp
          have hb5 : Below (W1x wr st).heap.size (W1x wr st) ((W1x wr st).drew.alloc (.cells (av z30) 30)) := hDb.alloc hDb.size _
          refine hK.out _ _ (HSx.out _ hb5) (fun hHeld2 => ?_)
          clear hK hHeld
          try simp only [Act.put, List.setIfInBounds_toArray, List.set_cons_zero, List.set_cons_succ]
          refine lat_one 6 rfl (by kernel_rfl) (by decide) (by rfl) (fun K hK => ?_)
          go_simp
          refine Calls.mono (HCC.out ((W1x wr st).drew.alloc (.cells (av z30) 30)) hb5) ?_
          rintro e w6 ⟨v, rfl, h6⟩
          have hb6 : Below (W1x wr st).heap.size (W1x wr st) w6 := hb5.trans (h6.bel.mono hb5.size)
          dsimp only
          refine hK.out _ _ (HSx.out w6 hb6) (fun hHeld3 => ?_)
          clear hK hHeld2
          try simp only [Act.put, List.setIfInBounds_toArray, List.set_cons_zero, List.set_cons_succ]
          refine lat_take 7 (v := ?_) rfl (by kernel_rfl) (by kernel_rfl) (by kernel_rfl) (by kernel_rfl) (fun _ _ _ h => h) (by rfl) ?_ (by assumption) ?_
          rotate_left
          · (intro w hSw; (try dsimp only at hSw); go_simp <;> with_reducible rfl)
          try simp only [Act.put, List.setIfInBounds_toArray, List.set_cons_zero, List.set_cons_succ]
          refine lat_take 8 (v := ?_) rfl (by kernel_rfl) (by kernel_rfl) (by kernel_rfl) (by kernel_rfl) (fun _ _ _ h => h) (by rfl) ?_ (by assumption) ?_
          rotate_left
          · (intro w hSw; (try dsimp only at hSw); go_simp <;> with_reducible rfl)
          try simp only [Act.put, List.setIfInBounds_toArray, List.set_cons_zero, List.set_cons_succ]
          refine lat_take 9 (v := ?_) rfl (by kernel_rfl) (by kernel_rfl) (by kernel_rfl) (by kernel_rfl) (fun _ _ _ h => h) (by rfl) ?_ (by assumption) ?_
          rotate_left
          · (intro w hSw; (try dsimp only at hSw); go_simp <;> with_reducible rfl)
          try simp only [Act.put, List.setIfInBounds_toArray, List.set_cons_zero, List.set_cons_succ]
          refine lat_take 11 (v := ?_) rfl (by kernel_rfl) (by kernel_rfl) (by kernel_rfl) (by kernel_rfl) (fun _ _ _ h => h) (by rfl) ?_ (by assumption) ?_
          rotate_left
          · (intro w hSw; (try dsimp only at hSw); go_simp <;> with_reducible rfl)
          try simp only [Act.put, List.setIfInBounds_toArray, List.set_cons_zero, List.set_cons_succ]
          have e6 := HE6.out w6 h6.bel
          refine lat_last 12 rfl (by kernel_rfl) (by decide) (by kernel_rfl) (by rfl) (fun K hK => ?_)
          refine wp_store_row 30 _ _ rfl (wr.heap.size + 1) (av (csOf cl st).st) rfl rfl 30 (av z30) e6 hz2c hsz hone (hK.out _ _ ?_)
          have HCM := HCMB.out w6 v h6
          clear hK hHeld3 h6 hb6 hb5 e6
          try simp only [Act.put, List.setIfInBounds_toArray, List.set_cons_zero, List.set_cons_succ]
          obtain ⟨y8, x8, HCM2⟩ := HCM
          go_wp2_with (first
            | (have _h := y8; refine wpList_load_row rfl 30 _ rfl (wr.heap.size + 1) rfl 30 (av (csOf cl st).st) (0, 0) _ y8 Tryd.underlying30 rfl hz2c ?_; clear _h y8)
            | (have _h := x8; refine wpList_store_row rfl 30 _ _ rfl wr.heap.size (av (csOf cl st).st) rfl rfl 30 (av st) x8 hz2c hsz2 hone ?_; clear _h x8)
            | (go_at_call 18; refine Calls.mono HCM2 ?_; rintro e w9 ⟨hF9, s9, m9, t9, hans2⟩; clear HCM2; have HQ : Hid (Bx w9 bs st ∧ Bx w9 bm st) := ⟨s9, m9⟩; rcases hans2 with ⟨rfl, hok9⟩ | ⟨rfl, hoff⟩)
            | (have _h := t9; refine wpList_load_row rfl 30 _ rfl wr.heap.size rfl 30 (av (csOf cl st).st) (0, 0) _ t9 Tryd.underlying30 rfl hz2c ?_; clear _h t9)
            | (have _h := hoff; refine wpList_store_row rfl 30 _ _ rfl bm (av (csOf cl st).st) rfl rfl 30 (av st) m9 hz2c hszx honex ?_; clear _h m9 s9; have hTZ := HOFF.out _ w9 hcst hF9 HQ.out.1 HQ.out.2 hoff; clear hoff)
            | (have _h := s9; refine wpList_store_row rfl 30 _ _ rfl bs (av (csOf cl st).st) rfl rfl 30 (av st) s9 hz2c hszx honex ?_; have s10 := Bx.set s9 (csOf cl st).st; have m10 := Bx.oth m9 hne' (av (csOf cl st).st); clear _h s9 m9)
            | (have _h := s10; refine wpList_load_row rfl 30 _ rfl bs rfl 30 (av (csOf cl st).st) (0, 0) _ s10 Tryd.underlying30 rfl hz2c ?_; clear _h s10)
            | (have _h := m10; refine wpList_store_row rfl 30 _ _ rfl bm (av (csOf cl st).st) rfl rfl 30 (av st) m10 hz2c hszx honex ?_; clear _h m10)
            | (go_at_call 29; have _h := hTZ; refine Calls.mono (HTC.out _ st (csOf cl st).st hTZ) ?_; rintro e w11 ⟨c', rfl, hOP⟩; clear _h hTZ)
            | (go_at_call 31; have _h := hOP; refine Calls.mono hOP ?_; rintro e w12 ⟨dp2, j2, d2, T2, s2, rfl, hF12, x12, y12, l12, l12', hJ12, hR12, hn12, hs2⟩; clear _h hOP)
            | (have _h := x12; refine load_row_g rfl 30 _ rfl bs rfl 30 (av st) (0, 0) _ x12 Tryd.underlying30 rfl hzs ?_; clear _h x12; have tk1 : True := trivial)
            | (go_at_call 24; have _h := tk1; refine (is_any hJ12 hR12 hn12 st l12).mono ?_; rintro e w13 ⟨rfl, hb13⟩; clear _h tk1; have hF13 := hF12.below hb13; have hJ13 := hJ12.below hb13; have y13 := Bx.below y12 hb13; clear y12; have HB2 := HBB.out s2 st (csOf cl st).st hs2; obtain ⟨bq, hbq⟩ : ∃ b, isB (absS s2) st = b := ⟨_, rfl⟩; rw [hbq]; cases bq)
            | (have _h := y13; refine load_row_g rfl 30 _ rfl bm rfl 30 (av (csOf cl st).st) (0, 0) _ y13 Tryd.underlying30 rfl hzm ?_; clear _h y13; have tk2 : True := trivial)
            | (go_at_call 24; have _h := tk2; refine (is_any hJ13 hR12 hn12 (csOf cl st).st l12').mono ?_; rintro e w15 ⟨rfl, hb15⟩; clear _h tk2; rw [HB2 hbq]; have hF15 := hF13.below hb15; clear hF13; have hF13 := hF15)
            | (go_at_call 15; refine (awake_any hF13).mono ?_; rintro e w16 ⟨rfl, hF16⟩))
          · exact ⟨⟨k + 1, _, by omega, by go_num, HOKN.out _ w9 _ hcst hF9 HQ.out.1 HQ.out.2 hok9⟩, by simp [intOf]; omega⟩
          all_goals
            go_ret
            exact ⟨rfl, hF16.bel⟩
      · by_cases hk2 : kd = 2
        · subst hk2
          have honex := hones
          have hszx := hszss
          have hzm := hzs
          have HSY : Hid (Calls Tryd.prog 19 #[.pointer (some ⟨j, 0, none⟩)] (W1x wr st) (CP w.heap.size w bs bm wr.heap.size st st j dp (3 + 345 * k + 345))) := (sync_c hF1 hE hJ1 (by omega)).mono (fun e w' h => h.cp hx1 hx2 hx3)
          clear hS r3 hok hbs hbm hE hF1 hJ1 hx1 hx2 hx3 r1 r2 r2' q1 q1d qZ hszW HR HP HP3 hk1
          go_wp2_with (first
            | (have _h := hS0; refine wpList_load_row rfl 30 _ rfl bs rfl 30 (av st) (0, 0) _ hS0 Tryd.underlying30 rfl hzs ?_; clear _h hS0)
            | (have _h := ez; refine wpList_store_row rfl 30 _ _ rfl wr.heap.size (av st) rfl rfl 30 (av z30) ez hzs hszs hones ?_; clear _h ez)
            | (go_at_call 19; refine Calls.mono HSY.out ?_; rintro e w9 ⟨hF9, s9, m9, t9, hans2⟩; have HQ : Hid (Bx w9 bs st ∧ Bx w9 bm st) := ⟨s9, m9⟩; rcases hans2 with ⟨rfl, hok9⟩ | ⟨rfl, hoff⟩)
            | (have _h := t9; refine wpList_load_row rfl 30 _ rfl wr.heap.size rfl 30 (av st) (0, 0) _ t9 Tryd.underlying30 rfl hzs ?_; clear _h t9)
            | (have _h := hoff; refine wpList_store_row rfl 30 _ _ rfl bm (av st) rfl rfl 30 (av st) m9 hzs rfl honex ?_; clear _h m9 s9; have hTZ := HOFF.out _ w9 hst hF9 HQ.out.1 HQ.out.2 hoff; clear hoff)
            | (have _h := s9; refine wpList_store_row rfl 30 _ _ rfl bs (av st) rfl rfl 30 (av st) s9 hzs rfl honex ?_; have s10 := Bx.set s9 st; have m10 := Bx.oth m9 hne' (av st); clear _h s9 m9)
            | (have _h := s10; refine wpList_load_row rfl 30 _ rfl bs rfl 30 (av st) (0, 0) _ s10 Tryd.underlying30 rfl hzs ?_; clear _h s10)
            | (have _h := m10; refine wpList_store_row rfl 30 _ _ rfl bm (av st) rfl rfl 30 (av st) m10 hzs rfl honex ?_; clear _h m10)
            | (go_at_call 29; have _h := hTZ; refine Calls.mono (HTC.out _ st st hTZ) ?_; rintro e w11 ⟨c', rfl, hOP⟩; clear _h hTZ)
            | (go_at_call 31; have _h := hOP; refine Calls.mono hOP ?_; rintro e w12 ⟨dp2, j2, d2, T2, s2, rfl, hF12, x12, y12, l12, l12', hJ12, hR12, hn12, hs2⟩; clear _h hOP)
            | (have _h := x12; refine load_row_g rfl 30 _ rfl bs rfl 30 (av st) (0, 0) _ x12 Tryd.underlying30 rfl hzs ?_; clear _h x12; have tk1 : True := trivial)
            | (go_at_call 24; have _h := tk1; refine (is_any hJ12 hR12 hn12 st l12).mono ?_; rintro e w13 ⟨rfl, hb13⟩; clear _h tk1; have hF13 := hF12.below hb13; have hJ13 := hJ12.below hb13; have y13 := Bx.below y12 hb13; clear y12; have HB2 := HBB.out s2 st st hs2; obtain ⟨bq, hbq⟩ : ∃ b, isB (absS s2) st = b := ⟨_, rfl⟩; rw [hbq]; cases bq)
            | (have _h := y13; refine load_row_g rfl 30 _ rfl bm rfl 30 (av st) (0, 0) _ y13 Tryd.underlying30 rfl hzm ?_; clear _h y13; have tk2 : True := trivial)
            | (go_at_call 24; have _h := tk2; refine (is_any hJ13 hR12 hn12 st l12').mono ?_; rintro e w15 ⟨rfl, hb15⟩; clear _h tk2; rw [HB2 hbq]; have hF15 := hF13.below hb15; clear hF13; have hF13 := hF15)
            | (go_at_call 15; refine (awake_any hF13).mono ?_; rintro e w16 ⟨rfl, hF16⟩))
          · exact ⟨⟨k + 1, _, by omega, by go_num, HOKN.out _ w9 _ hst hF9 HQ.out.1 HQ.out.2 hok9⟩, by simp [intOf]; omega⟩
          all_goals
            go_ret
            exact ⟨rfl, hF16.bel⟩
        · have honex := hones
          have hszx := hszss
          have HFIN : Hid (QS w.heap.size w (((W1x wr st).setRow bs (av st)).setRow bm (av st)) bs bm st j dp (3 + 345 * (k + 1))) := HOKN.out st (W1x wr st) _ hst hF1 hx1 hx2 (hJ1.mono (by omega))
          have t9 : (W1x wr st).heap[wr.heap.size]? = some (.cells (av st) 30 (0, 0)) := hx3
          have s9 : (W1x wr st).heap[bs]? = some (.cells (av st) 30 (0, 0)) := hx1
          have m9 : (W1x wr st).heap[bm]? = some (.cells (av st) 30 (0, 0)) := hx2
          clear hS r3 hok hbs hbm hE hF1 hJ1 hx1 hx2 hx3 r1 r2 r2' q1 q1d qZ hszW HR HP HP3
          go_wp2_with (first
            | (have _h := hS0; refine wpList_load_row rfl 30 _ rfl bs rfl 30 (av st) (0, 0) _ hS0 Tryd.underlying30 rfl hzs ?_; clear _h hS0)
            | (have _h := ez; refine wpList_store_row rfl 30 _ _ rfl wr.heap.size (av st) rfl rfl 30 (av z30) ez hzs hszs hones ?_; clear _h ez; have t8 := t9; have s8 := s9)
            | (have _h := t8; refine wpList_load_row rfl 30 _ rfl wr.heap.size rfl 30 (av st) (0, 0) _ t9 Tryd.underlying30 rfl hzs ?_; clear _h t8)
            | (have _h := s8; refine wpList_store_row rfl 30 _ _ rfl bs (av st) rfl rfl 30 (av st) s9 hzs rfl honex ?_; have s10 := Bx.set s9 st; have m10 := Bx.oth m9 hne' (av st); clear _h s8)
            | (have _h := s10; refine wpList_load_row rfl 30 _ rfl bs rfl 30 (av st) (0, 0) _ s10 Tryd.underlying30 rfl hzs ?_; clear _h s10)
            | (have _h := m10; refine wpList_store_row rfl 30 _ _ rfl bm (av st) rfl rfl 30 (av st) m10 hzs rfl honex ?_; clear _h m10))
          exact ⟨⟨k + 1, _, by omega, by go_num, HFIN.out⟩, by simp [intOf]; omega⟩
    · obtain rfl : k = l0.length := by omega
      have hTZ := hS.tz
      have hzs := info30 st hS.2.2.2.2.2.2.1
      have hzm := hzs
      clear hS HR HP HP3
      go_wp2_with (first
        | (go_at_call 29; have _h := hTZ; refine Calls.mono (HTC.out _ st st hTZ) ?_; rintro e w11 ⟨c', rfl, hOP⟩; clear _h hTZ)
        | (go_at_call 31; have _h := hOP; refine Calls.mono hOP ?_; rintro e w12 ⟨dp2, j2, d2, T2, s2, rfl, hF12, x12, y12, l12, l12', hJ12, hR12, hn12, hs2⟩; clear _h hOP)
        | (have _h := x12; refine load_row_g rfl 30 _ rfl bs rfl 30 (av st) (0, 0) _ x12 Tryd.underlying30 rfl hzs ?_; clear _h x12; have tk1 : True := trivial)
        | (go_at_call 24; have _h := tk1; refine (is_any hJ12 hR12 hn12 st l12).mono ?_; rintro e w13 ⟨rfl, hb13⟩; clear _h tk1; have hF13 := hF12.below hb13; have hJ13 := hJ12.below hb13; have y13 := Bx.below y12 hb13; clear y12; have HB2 := HBB.out s2 st st hs2; obtain ⟨bq, hbq⟩ : ∃ b, isB (absS s2) st = b := ⟨_, rfl⟩; rw [hbq]; cases bq)
        | (have _h := y13; refine load_row_g rfl 30 _ rfl bm rfl 30 (av st) (0, 0) _ y13 Tryd.underlying30 rfl hzm ?_; clear _h y13; have tk2 : True := trivial)
        | (go_at_call 24; have _h := tk2; refine (is_any hJ13 hR12 hn12 st l12').mono ?_; rintro e w15 ⟨rfl, hb15⟩; clear _h tk2; rw [HB2 hbq]; have hF15 := hF13.below hb15; clear hF13; have hF13 := hF15)
        | (go_at_call 15; refine (awake_any hF13).mono ?_; rintro e w16 ⟨rfl, hF16⟩))
      all_goals
        go_ret
        exact ⟨rfl, hF16.bel⟩
end Go.Proofs.YtmodjgailmpfmaaDoor
