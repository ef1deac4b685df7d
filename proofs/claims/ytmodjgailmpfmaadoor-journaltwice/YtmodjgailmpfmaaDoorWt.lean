/- JournalTwice's walk. -/
import Derived.Test.YtmodjgailmpfmaaDoorLt
namespace Go.Proofs.YtmodjgailmpfmaaDoor
set_option linter.unusedSimpArgs false
set_option linter.unusedVariables false
open Go.RowKit Go.MapKept Go.Proofs
set_option maxRecDepth 100000 in
set_option maxHeartbeats 4000000 in
theorem journalTwice_walk (a0 : Option Addr) (cap0 : Nat) (l0 : List Stp) (a1 : Int) (a2 : Option Addr) (cap2 : Nat) (l2 : List Int) (w : World) (ht : Tab w) (w0 : SRow w a0 l0) (m0 : l0.length ≤ 9223372036854775807) (w1 : (Lit.int .i64 a1).wf = true) (w2 : RowI w a2 l2) (m2 : l2.length ≤ maxLen) :
    Calls Tryd.prog 13 #[.slice a0 l0.length cap0, .int .i64 a1, .slice a2 l2.length cap2] w fun e w' => e = .returned (.bool true) ∧ Below w.heap.size w w' := by
  have hF := Fr.law ht
  have HAW : Hid _ := awake_any hF
  have HF : Hid _ := fresh_any hF
  obtain ⟨z1, z2⟩ := bd64 w1
  have m0I : (l0.length : Int) ≤ 9223372036854775807 := by omega
  have m2n : l2.length ≤ 9223372036854775807 := by unfold maxLen at m2; omega
  have m2I : (l2.length : Int) ≤ 9223372036854775807 := by omega
  have HSM : Hid _ := small_any a0 cap0 l0 w w0 m0
  have HR : Hid (∀ w', Fr w.heap.size [] w w' → SRow w' a0 l0) := fun w' h => w0.below h.bel
  have HP : Hid (∀ w', Fr w.heap.size [] w w' → RowI w' a2 l2) := fun w' h i hi => by
    obtain ⟨b, off, e, h1, h2⟩ := w2 i hi
    exact ⟨b, off, e, by rw [h.bel.cell (World.block_lt_of_cell? _ _ h1)]; exact h1, h2⟩
  clear hF ht w0 w1 w2 m2
  go_enter Tryd.func13, Tryd.ntmps13
  go_wp2_with (first
    | (go_at_call 14; refine Calls.mono HSM.out ?_; rintro e w2 ⟨bs, rfl, hb40, hw⟩; subst w2; have HB40 : Hid (bs = true → l0.length ≤ 40) := hb40; clear hb40; cases bs)
    | (go_at_call 15; refine Calls.mono HAW.out ?_; rintro e wA ⟨rfl, hFA⟩)
    | (go_at_call 16; refine Calls.mono HF.out ?_; rintro e w3 ⟨dp, j, d, rfl, hF3, hJ3, hR3, hn3, hc3, ho3⟩; have hCU := JC.cut hF3 hJ3 hR3 hn3 ho3 a1 z2; clear hF3 hJ3 hR3 hn3 hc3 ho3)
    | (go_at_call 30; refine Calls.mono hCU ?_; rintro e w4 ⟨⟨v4, rfl⟩, hJC⟩; clear hCU))
  · go_ret
    exact ⟨rfl, hFA.bel⟩
  · go_ret
    exact ⟨rfl, hFA.bel⟩
  rotate_left
  · go_ret
    exact ⟨rfl, hFA.bel⟩
  · go_ret
    exact ⟨rfl, hFA.bel⟩
  have h40 : l0.length ≤ 40 := HB40.out (by trivial)
  have h40I : (l0.length : Int) ≤ 40 := by omega
  have HJS : Hid (JC w.heap.size w (w4.alloc (.cells (av z30) 30)) w4.heap.size z30 j dp 3) := hJC
  clear hJC HF HAW HSM HB40
  obtain ⟨bx, HBX⟩ : ∃ bx, Hid (w4.heap.size = bx) := ⟨_, rfl⟩
  have hBX := HBX.out
  have HJS2 : Hid (JC w.heap.size w (w4.alloc (.cells (av z30) 30)) bx z30 j dp 3) := by rw [← hBX]; exact HJS.out
  rw [hBX]
  clear HJS hBX HBX
  have HGO : Hid (∀ wx, Gone w.heap.size w wx dp → Calls Tryd.prog 29 #[.pointer (some ⟨dp, 0, none⟩), .slice a2 l2.length cap2] wx fun e w' => ∃ c s, e = .returned (.pointer (some ⟨c, 0, none⟩)) ∧ Calls Tryd.prog 31 #[.pointer (some ⟨c, 0, none⟩), .slice none 0 0, .slice none 0 0] w' (OneOpen w.heap.size w s)) := fun wx h => h.crash a2 l2 cap2 (HP.out wx (by obtain ⟨_, _, _, h1, _⟩ := h; exact h1)) m2n
  go_loopw [11] (fun i wr => ∃ k st, k ≤ l0.length ∧ i = .int .i64 ((k : Nat) : Int) ∧ JC w.heap.size w wr bx st j dp (3 + 345 * k)) (fun i _ => l0.length - (intOf i).toNat)
  case atStart => exact ⟨0, z30, by omega, rfl, HJS2.out⟩
  case round =>
    clear HJS2
    obtain ⟨k, st, hk, rfl, hS⟩ := hrel
    by_cases hlt : k < l0.length
    · have hltI : (k : Int) < (l0.length : Int) := by omega
      obtain ⟨lk, off, rfl, r1, r2, r3, r4⟩ := HR.out wr hS.fr k hlt
      generalize l0.getD k stp0 = sp at *
      obtain ⟨kd, ca, cl, ccap⟩ := sp
      dsimp only at r1 r2 r3 r4
      have hst := hS.len
      have hok := csOk cl st hst
      have hzs := info30 st hst
      have hz2c := info30 _ hok.stl
      have hone := av_one (csOf cl st).st
      have hsz : (av z30).size = (av (csOf cl st).st).size := by rw [av_size, av_size, hok.stl]; rfl
      have hsz2 : (av st).size = (av (csOf cl st).st).size := by rw [av_size, av_size, hok.stl, hst]
      have hbx := hS.box
      have hbl := (Array.getElem?_eq_some_iff.1 hbx).1
      have hltk := World.block_lt_of_cell? _ _ r2
      have hDb : Below wr.heap.size wr wr.drew := ⟨rfl, rfl, rfl, Nat.le_refl _, fun _ _ => rfl⟩
      have hSd := hS.below hDb
      have HSx : Hid (∀ x, Below wr.heap.size wr x → x.cell? ⟨lk, off + k * 2 + 1, none⟩ = some (.slice ca cl.length ccap) ∧ x.heap[bx]? = some (.cells (av st) 30 (0, 0)) ∧ Below wr.heap.size wr x) := fun x hb => ⟨by rw [hb.cell hltk]; exact r2, (hb.block bx hbl).trans hbx, hb⟩
      have HCC : Hid (∀ wx, Below wr.heap.size wr wx → Calls Tryd.prog 17 #[.slice ca cl.length ccap, .agg (av st)] wx (ChgOut wx cl st)) := fun wx hb => changes_out ca ccap cl st wx (r3.below hb) r4 hst
      have hwk : IntKind.i64.wrap (k : Int) = (k : Int) := wrap_small _ (by omega) (by omega)
      have hkI0 : (0 : Int) ≤ (k : Int) := by omega
      have HCMA : Hid (∀ w6 v, ChgPost wr.drew cl st (.returned (.tuple #[v, .agg (av (csOf cl st).st)])) w6 → Calls Tryd.prog 18 #[.pointer (some ⟨j, 0, none⟩), v] ((w6.alloc (.cells (av z30) 30)).setRow w6.heap.size (av (csOf cl st).st)) (JCAns w.heap.size w bx w6.heap.size st (csOf cl st).st j dp (3 + 345 * k + 345))) := fun w6 v h6 => hSd.commit (by omega) h6 (av z30)
      have HCMB : Hid (∀ w6 v, ChgPost (wr.drew.alloc (.cells (av z30) 30)) cl st (.returned (.tuple #[v, .agg (av (csOf cl st).st)])) w6 → Calls Tryd.prog 18 #[.pointer (some ⟨j, 0, none⟩), v] (w6.setRow wr.heap.size (av (csOf cl st).st)) (JCAns w.heap.size w bx wr.heap.size st (csOf cl st).st j dp (3 + 345 * k + 345))) := fun w6 v h6 => hSd.commitB (by omega) h6
      have HNEXT : Hid (∀ w9 b2, JCM w.heap.size w w9 bx b2 st (csOf cl st).st j dp (3 + 345 * k + 345) → JC w.heap.size w (w9.setRow bx (av (csOf cl st).st)) bx (csOf cl st).st j dp (3 + 345 * (k + 1))) := fun w9 b2 h => h.store.mono (by omega)
      clear hS hSd r3 r1 hok hst hbx hbl hltk r2 HR
      go_wp2
      refine wp_region_lat (fun x => x.cell? ⟨lk, off + k * 2 + 1, none⟩ = some (.slice ca cl.length ccap) ∧ x.heap[bx]? = some (.cells (av st) 30 (0, 0)) ∧ Below wr.heap.size wr x) 12 (by kernel_rfl) (HSx.out wr.drew hDb) (fun hHeld => ?_)
      refine lat_take 0 (v := ?_) rfl (by kernel_rfl) (by kernel_rfl) (by kernel_rfl) (by kernel_rfl) (fun _ _ _ h => h) (by rfl) ?_ (by assumption) ?_
      rotate_left
      · (intro w hSw; (try dsimp only at hSw); go_simp <;> with_reducible rfl)
      try simp only [Act.put, List.setIfInBounds_toArray, List.set_cons_zero, List.set_cons_succ]
      refine lat_take 1 (v := ?_) rfl (by kernel_rfl) (by kernel_rfl) (by kernel_rfl) (by kernel_rfl) (fun _ _ _ h => h) (by rfl) ?_ (by assumption) ?_
      rotate_left
      · (intro w hSw; (try dsimp only at hSw); go_simp <;> with_reducible rfl)
      try simp only [Act.put, List.setIfInBounds_toArray, List.set_cons_zero, List.set_cons_succ]
      refine lat_take 2 (v := ?_) rfl (by kernel_rfl) (by kernel_rfl) (by kernel_rfl) (by kernel_rfl) (fun _ _ _ h => h) (by rfl) ?_ (by assumption) ?_
      rotate_left
      · (intro w hSw; (try dsimp only at hSw); go_simp <;> with_reducible rfl)
      try simp only [Act.put, List.setIfInBounds_toArray, List.set_cons_zero, List.set_cons_succ]
      refine lat_take 3 (v := ?_) rfl (by kernel_rfl) (by kernel_rfl) (by kernel_rfl) (by kernel_rfl) (fun _ _ _ h => h) (by rfl) ?_ (by assumption) ?_
      rotate_left
      · (intro w hSw; (try dsimp only at hSw); go_simp <;> with_reducible rfl)
      try simp only [Act.put, List.setIfInBounds_toArray, List.set_cons_zero, List.set_cons_succ]
      refine lat_take 4 (v := ?_) rfl (by kernel_rfl) (by kernel_rfl) (by kernel_rfl) (by kernel_rfl) (fun _ _ _ h => h) (by rfl) ?_ (by assumption) ?_
      rotate_left
      · (intro w hSw; (try dsimp only at hSw); go_simp <;> with_reducible rfl)
      try simp only [Act.put, List.setIfInBounds_toArray, List.set_cons_zero, List.set_cons_succ]
      refine lat_take 5 (v := .agg (av st)) rfl (by kernel_rfl) (by kernel_rfl) (by kernel_rfl) (by kernel_rfl) (fun _ _ _ h => h) (by rfl) (fun w hSw => exec_load_row 30 _ rfl bx rfl 30 (av st) (0, 0) _ hSw.2.1 Tryd.underlying30 rfl hzs) (by assumption) ?_
      try simp only [Act.put, List.setIfInBounds_toArray, List.set_cons_zero, List.set_cons_succ]
      refine lat_two 6 10 rfl rfl (by kernel_rfl) (by decide) (by decide) (by rfl) (by rfl) (fun K hK => ?_) (fun K hK => ?_)
      · go_simp
        refine Calls.mono (HCC.out wr.drew hDb) ?_
        rintro e w6 ⟨v, rfl, h6⟩
        have hb6 : Below wr.heap.size wr w6 := hDb.trans (h6.bel.mono (Nat.le_refl _))
        dsimp only
        refine hK.out _ _ (HSx.out w6 hb6) (fun hHeld2 => ?_)
        clear hK hHeld
        try simp only [Act.put, List.setIfInBounds_toArray, List.set_cons_zero, List.set_cons_succ]
        refine lat_take 7 (v := ?_) rfl (by kernel_rfl) (by kernel_rfl) (by kernel_rfl) (by kernel_rfl) (fun _ _ _ h => h) (by rfl) ?_ (by assumption) ?_
        rotate_left
        · (intro w hSw; (try dsimp only at hSw); go_simp <;> with_reducible rfl)
        try simp only [Act.put, List.setIfInBounds_toArray, List.set_cons_zero, List.set_cons_succ]
        refine lat_take 8 (v := ?_) rfl (by kernel_rfl) (by kernel_rfl) (by kernel_rfl) (by kernel_rfl) (fun _ _ _ h => h) (by rfl) ?_ (by assumption) ?_
        rotate_left
        · (intro w hSw; (try dsimp only at hSw); go_simp <;> with_reducible rfl)
        try simp only [Act.put, List.setIfInBounds_toArray, List.set_cons_zero, List.set_cons_succ]
        refine lat_take 9 (v := ?_) rfl (by kernel_rfl) (by kernel_rfl) (by kernel_rfl) (by kernel_rfl) (fun _ _ _ h => h) (by rfl) ?_ (by assumption) ?_
        rotate_left
        · (intro w hSw; (try dsimp only at hSw); go_simp <;> with_reducible rfl)
        try simp only [Act.put, List.setIfInBounds_toArray, List.set_cons_zero, List.set_cons_succ]
        refine lat_one 10 rfl (by kernel_rfl) (by decide) (by rfl) (fun K hK => ?_)
        go_simp
        have hb7 : Below wr.heap.size wr (w6.alloc (.cells (av z30) 30)) := hb6.alloc hb6.size _
        refine hK.out _ _ (HSx.out _ hb7) (fun hHeld3 => ?_)
        clear hK hHeld2
        try simp only [Act.put, List.setIfInBounds_toArray, List.set_cons_zero, List.set_cons_succ]
        refine lat_take 11 (v := ?_) rfl (by kernel_rfl) (by kernel_rfl) (by kernel_rfl) (by kernel_rfl) (fun _ _ _ h => h) (by rfl) ?_ (by assumption) ?_
        rotate_left
        · (intro w hSw; (try dsimp only at hSw); go_simp <;> with_reducible rfl)
        try simp only [Act.put, List.setIfInBounds_toArray, List.set_cons_zero, List.set_cons_succ]
        refine lat_last 12 rfl (by kernel_rfl) (by decide) (by kernel_rfl) (by rfl) (fun K hK => ?_)
        refine wp_store_row 30 _ _ rfl w6.heap.size (av (csOf cl st).st) rfl rfl 30 (av z30) (heap_alloc_new w6 (.cells (av z30) 30)) hz2c hsz hone (hK.out _ _ ?_)
        have HCM := HCMA.out w6 v h6
        clear hK hHeld3 h6 hb6 hb7
        try simp only [Act.put, List.setIfInBounds_toArray, List.set_cons_zero, List.set_cons_succ]
        go_wp2_with (first
          | (go_at_call 18; refine Calls.mono HCM ?_; intro e w9 hans; clear HCM; rcases hans with ⟨rfl, hM9⟩ | ⟨rfl, hX9⟩; (obtain ⟨x9, y9⟩ := hM9.box; have hS9 := HNEXT.out w9 _ hM9; clear hM9); skip)
          | (have _h := y9; refine wpList_load_row rfl 30 _ rfl w6.heap.size rfl 30 (av (csOf cl st).st) (0, 0) _ y9 Tryd.underlying30 rfl hz2c ?_; clear _h y9)
          | (have _h := x9; refine wpList_store_row rfl 30 _ _ rfl bx (av (csOf cl st).st) rfl rfl 30 (av st) x9 hz2c hsz2 hone ?_; clear _h x9)
          | (go_at_call 29; have _h := hX9; refine Calls.mono (HGO.out w9 hX9.gone) ?_; rintro e w11 ⟨c, s, rfl, hOP⟩; clear _h hX9)
          | (go_at_call 31; have _h := hOP; refine Calls.mono hOP ?_; rintro e w12 ⟨dp2, j1, rfl, hO12⟩; clear _h hOP; have HA := hO12.again a2 l2 cap2 (HP.out w12 hO12.1) m2n; clear hO12)
          | (go_at_call 29; have _h := HA; refine Calls.mono HA ?_; rintro e w13 ⟨c2, rfl, hOP2⟩; clear _h HA)
          | (go_at_call 31; have _h := hOP2; refine Calls.mono hOP2 ?_; rintro e w14 ⟨dp3, j2, rfl, hT14⟩; clear _h hOP2))
        · exact ⟨⟨k + 1, _, by omega, by go_num, hS9⟩, by simp [intOf]; omega⟩
        have HT14 : Hid (TW w.heap.size w w14 j1 j2 s) := hT14
        clear hT14
        go_loopw [19] (fun i wr => ∃ x, x ≤ 30 ∧ i = .int .i64 ((x : Nat) : Int) ∧ TW w.heap.size w wr j1 j2 s) (fun i _ => 30 - (intOf i).toNat)
        case atStart => exact ⟨0, by omega, rfl, HT14.out⟩
        case round =>
          clear HT14
          obtain ⟨x, hx, rfl, hX⟩ := hrel
          by_cases hlt : x < 30
          · have hltI : (x : Int) < 30 := by omega
            have HX : Hid (TW w.heap.size w wr j1 j2 s) := hX
            have HR1 : Hid (Calls Tryd.prog 26 #[.pointer (some ⟨j1, 0, none⟩), .int .i64 (245 + (x : Int))] wr fun e w' => ∃ g, e = .returned (.tuple #[.slice (some ⟨g, 0, none⟩) 512 512, .int .i64 0]) ∧ Full w' g 81 (s (245 + x)) ∧ Below wr.heap.size wr w') := hX.read x hlt j1 (.inl rfl)
            have HR2 : Hid (∀ w', Below wr.heap.size wr w' → Calls Tryd.prog 26 #[.pointer (some ⟨j2, 0, none⟩), .int .i64 (245 + (x : Int))] w' fun e w'' => ∃ g, e = .returned (.tuple #[.slice (some ⟨g, 0, none⟩) 512 512, .int .i64 0]) ∧ Full w'' g 81 (s (245 + x)) ∧ Below w'.heap.size w' w'') := fun w' hb => (hX.below hb).read x hlt j2 (.inr rfl)
            obtain ⟨y1, y2⟩ := hX.slt x hlt
            have HY2 : Hid (∀ i, (s (245 + x)).getD i 0 < 256) := y2
            clear hX y2
            generalize s (245 + x) = Z at *
            go_wp2_with (first
              | (go_at_call 26; have _h := HR1; refine Calls.mono HR1.out ?_; rintro e w16 ⟨g6, rfl, hg6, hb6⟩; clear _h HR1)
              | (go_at_call 26; refine Calls.mono (HR2.out w16 hb6) ?_; rintro e w17 ⟨g7, rfl, hg7, hb7⟩; have hg6' := hg6.below hb7)
              | (go_at_call 21; refine (bytesF hg6' hg7 y1 y1 HY2.out HY2.out).mono ?_; rintro e w18 ⟨rfl, hb8⟩; rw [decide_eq_true rfl]))
            exact ⟨⟨x + 1, by omega, by go_num, TW.below (TW.below (TW.below HX.out hb6) hb7) hb8⟩, by simp [intOf]; omega⟩
          · obtain rfl : x = 30 := by omega
            have hF20 := hX.1
            clear hX
            go_wp2_with (go_at_call 15; refine (awake_any hF20).mono ?_; rintro e w21 ⟨rfl, hF21⟩)
            go_ret
            exact ⟨rfl, hF21.bel⟩
      · go_simp
        have hb5 : Below wr.heap.size wr (wr.drew.alloc (.cells (av z30) 30)) := hDb.alloc hDb.size _
        refine hK.out _ _ (HSx.out _ hb5) (fun hHeld2 => ?_)
        clear hK hHeld
        try simp only [Act.put, List.setIfInBounds_toArray, List.set_cons_zero, List.set_cons_succ]
        refine lat_one 6 rfl (by kernel_rfl) (by decide) (by rfl) (fun K hK => ?_)
        go_simp
        refine Calls.mono (HCC.out (wr.drew.alloc (.cells (av z30) 30)) hb5) ?_
        rintro e w6 ⟨v, rfl, h6⟩
        have hb6 : Below wr.heap.size wr w6 := hb5.trans (h6.bel.mono hb5.size)
        dsimp only
        refine hK.out _ _ (HSx.out w6 hb6) (fun hHeld3 => ?_)
        clear hK hHeld2
        try simp only [Act.put, List.setIfInBounds_toArray, List.set_cons_zero, List.set_cons_succ]
        refine lat_take 7 (v := ?_) rfl (by kernel_rfl) (by kernel_rfl) (by kernel_rfl) (by kernel_rfl) (fun _ _ _ h => h) (by rfl) ?_ (by assumption) ?_
        rotate_left
        · (intro w hSw; (try dsimp only at hSw); go_simp <;> with_reducible rfl)
        try simp only [Act.put, List.setIfInBounds_toArray, List.set_cons_zero, List.set_cons_succ]
        refine lat_take 8 (v := ?_) rfl (by kernel_rfl) (by kernel_rfl) (by kernel_rfl) (by kernel_rfl) (fun _ _ _ h => h) (by rfl) ?_ (by assumption) ?_
        rotate_left
        · (intro w hSw; (try dsimp only at hSw); go_simp <;> with_reducible rfl)
        try simp only [Act.put, List.setIfInBounds_toArray, List.set_cons_zero, List.set_cons_succ]
        refine lat_take 9 (v := ?_) rfl (by kernel_rfl) (by kernel_rfl) (by kernel_rfl) (by kernel_rfl) (fun _ _ _ h => h) (by rfl) ?_ (by assumption) ?_
        rotate_left
        · (intro w hSw; (try dsimp only at hSw); go_simp <;> with_reducible rfl)
        try simp only [Act.put, List.setIfInBounds_toArray, List.set_cons_zero, List.set_cons_succ]
        refine lat_take 11 (v := ?_) rfl (by kernel_rfl) (by kernel_rfl) (by kernel_rfl) (by kernel_rfl) (fun _ _ _ h => h) (by rfl) ?_ (by assumption) ?_
        rotate_left
        · (intro w hSw; (try dsimp only at hSw); go_simp <;> with_reducible rfl)
        try simp only [Act.put, List.setIfInBounds_toArray, List.set_cons_zero, List.set_cons_succ]
        have e6 : w6.heap[wr.heap.size]? = some (.cells (av z30) 30 (0, 0)) := (h6.bel.block _ (by show wr.heap.size < (wr.heap.push _).size; simp)).trans (heap_alloc_new wr.drew (.cells (av z30) 30))
        refine lat_last 12 rfl (by kernel_rfl) (by decide) (by kernel_rfl) (by rfl) (fun K hK => ?_)
        refine wp_store_row 30 _ _ rfl wr.heap.size (av (csOf cl st).st) rfl rfl 30 (av z30) e6 hz2c hsz hone (hK.out _ _ ?_)
        have HCM := HCMB.out w6 v h6
        clear hK hHeld3 h6 hb6 hb5 e6
        try simp only [Act.put, List.setIfInBounds_toArray, List.set_cons_zero, List.set_cons_succ]
        go_wp2_with (first
          | (go_at_call 18; refine Calls.mono HCM ?_; intro e w9 hans; clear HCM; rcases hans with ⟨rfl, hM9⟩ | ⟨rfl, hX9⟩; (obtain ⟨x9, y9⟩ := hM9.box; have hS9 := HNEXT.out w9 _ hM9; clear hM9); skip)
          | (have _h := y9; refine wpList_load_row rfl 30 _ rfl wr.heap.size rfl 30 (av (csOf cl st).st) (0, 0) _ y9 Tryd.underlying30 rfl hz2c ?_; clear _h y9)
          | (have _h := x9; refine wpList_store_row rfl 30 _ _ rfl bx (av (csOf cl st).st) rfl rfl 30 (av st) x9 hz2c hsz2 hone ?_; clear _h x9)
          | (go_at_call 29; have _h := hX9; refine Calls.mono (HGO.out w9 hX9.gone) ?_; rintro e w11 ⟨c, s, rfl, hOP⟩; clear _h hX9)
          | (go_at_call 31; have _h := hOP; refine Calls.mono hOP ?_; rintro e w12 ⟨dp2, j1, rfl, hO12⟩; clear _h hOP; have HA := hO12.again a2 l2 cap2 (HP.out w12 hO12.1) m2n; clear hO12)
          | (go_at_call 29; have _h := HA; refine Calls.mono HA ?_; rintro e w13 ⟨c2, rfl, hOP2⟩; clear _h HA)
          | (go_at_call 31; have _h := hOP2; refine Calls.mono hOP2 ?_; rintro e w14 ⟨dp3, j2, rfl, hT14⟩; clear _h hOP2))
        · exact ⟨⟨k + 1, _, by omega, by go_num, hS9⟩, by simp [intOf]; omega⟩
        have HT14 : Hid (TW w.heap.size w w14 j1 j2 s) := hT14
        clear hT14
        go_loopw [19] (fun i wr => ∃ x, x ≤ 30 ∧ i = .int .i64 ((x : Nat) : Int) ∧ TW w.heap.size w wr j1 j2 s) (fun i _ => 30 - (intOf i).toNat)
        case atStart => exact ⟨0, by omega, rfl, HT14.out⟩
        case round =>
          clear HT14
          obtain ⟨x, hx, rfl, hX⟩ := hrel
          by_cases hlt : x < 30
          · have hltI : (x : Int) < 30 := by omega
            have HX : Hid (TW w.heap.size w wr j1 j2 s) := hX
            have HR1 : Hid (Calls Tryd.prog 26 #[.pointer (some ⟨j1, 0, none⟩), .int .i64 (245 + (x : Int))] wr fun e w' => ∃ g, e = .returned (.tuple #[.slice (some ⟨g, 0, none⟩) 512 512, .int .i64 0]) ∧ Full w' g 81 (s (245 + x)) ∧ Below wr.heap.size wr w') := hX.read x hlt j1 (.inl rfl)
            have HR2 : Hid (∀ w', Below wr.heap.size wr w' → Calls Tryd.prog 26 #[.pointer (some ⟨j2, 0, none⟩), .int .i64 (245 + (x : Int))] w' fun e w'' => ∃ g, e = .returned (.tuple #[.slice (some ⟨g, 0, none⟩) 512 512, .int .i64 0]) ∧ Full w'' g 81 (s (245 + x)) ∧ Below w'.heap.size w' w'') := fun w' hb => (hX.below hb).read x hlt j2 (.inr rfl)
            obtain ⟨y1, y2⟩ := hX.slt x hlt
            have HY2 : Hid (∀ i, (s (245 + x)).getD i 0 < 256) := y2
            clear hX y2
            generalize s (245 + x) = Z at *
            go_wp2_with (first
              | (go_at_call 26; have _h := HR1; refine Calls.mono HR1.out ?_; rintro e w16 ⟨g6, rfl, hg6, hb6⟩; clear _h HR1)
              | (go_at_call 26; refine Calls.mono (HR2.out w16 hb6) ?_; rintro e w17 ⟨g7, rfl, hg7, hb7⟩; have hg6' := hg6.below hb7)
              | (go_at_call 21; refine (bytesF hg6' hg7 y1 y1 HY2.out HY2.out).mono ?_; rintro e w18 ⟨rfl, hb8⟩; rw [decide_eq_true rfl]))
            exact ⟨⟨x + 1, by omega, by go_num, TW.below (TW.below (TW.below HX.out hb6) hb7) hb8⟩, by simp [intOf]; omega⟩
          · obtain rfl : x = 30 := by omega
            have hF20 := hX.1
            clear hX
            go_wp2_with (go_at_call 15; refine (awake_any hF20).mono ?_; rintro e w21 ⟨rfl, hF21⟩)
            go_ret
            exact ⟨rfl, hF21.bel⟩
    · obtain rfl : k = l0.length := by omega
      have HG1 : Hid _ := HGO.out wr hS.gone
      clear hS HR
      go_wp2_with (first
        | (go_at_call 29; have _h := HG1; refine Calls.mono HG1.out ?_; rintro e w11 ⟨c, s, rfl, hOP⟩; clear _h HG1)
        | (go_at_call 31; have _h := hOP; refine Calls.mono hOP ?_; rintro e w12 ⟨dp2, j1, rfl, hO12⟩; clear _h hOP; have HA := hO12.again a2 l2 cap2 (HP.out w12 hO12.1) m2n; clear hO12)
        | (go_at_call 29; have _h := HA; refine Calls.mono HA ?_; rintro e w13 ⟨c2, rfl, hOP2⟩; clear _h HA)
        | (go_at_call 31; have _h := hOP2; refine Calls.mono hOP2 ?_; rintro e w14 ⟨dp3, j2, rfl, hT14⟩; clear _h hOP2))
      have HT14 : Hid (TW w.heap.size w w14 j1 j2 s) := hT14
      clear hT14
      go_loopw [19] (fun i wr => ∃ x, x ≤ 30 ∧ i = .int .i64 ((x : Nat) : Int) ∧ TW w.heap.size w wr j1 j2 s) (fun i _ => 30 - (intOf i).toNat)
      case atStart => exact ⟨0, by omega, rfl, HT14.out⟩
      case round =>
        clear HT14
        obtain ⟨x, hx, rfl, hX⟩ := hrel
        by_cases hlt : x < 30
        · have hltI : (x : Int) < 30 := by omega
          have HX : Hid (TW w.heap.size w wr j1 j2 s) := hX
          have HR1 : Hid (Calls Tryd.prog 26 #[.pointer (some ⟨j1, 0, none⟩), .int .i64 (245 + (x : Int))] wr fun e w' => ∃ g, e = .returned (.tuple #[.slice (some ⟨g, 0, none⟩) 512 512, .int .i64 0]) ∧ Full w' g 81 (s (245 + x)) ∧ Below wr.heap.size wr w') := hX.read x hlt j1 (.inl rfl)
          have HR2 : Hid (∀ w', Below wr.heap.size wr w' → Calls Tryd.prog 26 #[.pointer (some ⟨j2, 0, none⟩), .int .i64 (245 + (x : Int))] w' fun e w'' => ∃ g, e = .returned (.tuple #[.slice (some ⟨g, 0, none⟩) 512 512, .int .i64 0]) ∧ Full w'' g 81 (s (245 + x)) ∧ Below w'.heap.size w' w'') := fun w' hb => (hX.below hb).read x hlt j2 (.inr rfl)
          obtain ⟨y1, y2⟩ := hX.slt x hlt
          have HY2 : Hid (∀ i, (s (245 + x)).getD i 0 < 256) := y2
          clear hX y2
          generalize s (245 + x) = Z at *
          go_wp2_with (first
            | (go_at_call 26; have _h := HR1; refine Calls.mono HR1.out ?_; rintro e w16 ⟨g6, rfl, hg6, hb6⟩; clear _h HR1)
            | (go_at_call 26; refine Calls.mono (HR2.out w16 hb6) ?_; rintro e w17 ⟨g7, rfl, hg7, hb7⟩; have hg6' := hg6.below hb7)
            | (go_at_call 21; refine (bytesF hg6' hg7 y1 y1 HY2.out HY2.out).mono ?_; rintro e w18 ⟨rfl, hb8⟩; rw [decide_eq_true rfl]))
          exact ⟨⟨x + 1, by omega, by go_num, TW.below (TW.below (TW.below HX.out hb6) hb7) hb8⟩, by simp [intOf]; omega⟩
        · obtain rfl : x = 30 := by omega
          have hF20 := hX.1
          clear hX
          go_wp2_with (go_at_call 15; refine (awake_any hF20).mono ?_; rintro e w21 ⟨rfl, hF21⟩)
          go_ret
          exact ⟨rfl, hF21.bel⟩
end Go.Proofs.YtmodjgailmpfmaaDoor
