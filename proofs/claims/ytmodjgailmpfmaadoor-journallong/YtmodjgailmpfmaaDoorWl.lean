/- JournalLong's walk. -/
import Derived.Test.YtmodjgailmpfmaaDoorLq
namespace Go.Proofs.YtmodjgailmpfmaaDoor
set_option linter.unusedSimpArgs false
set_option linter.unusedVariables false
open Go.RowKit Go.MapKept Go.Proofs
theorem info67 : (Tryd.prog.info? 67).map (fun i => (i.zero, i.size, i.bytes)) = some (some (.agg #[.int .i64 0, .int .i64 0]), 2, 16) := by kernel_rfl
def pv : List (Int × Int) → List Value
  | [] => []
  | p :: l => .int .i64 p.1 :: .int .i64 p.2 :: pv l
theorem pv_app (l : List (Int × Int)) (p : Int × Int) : pv (l ++ [p]) = pv l ++ [.int .i64 p.1, .int .i64 p.2] := by
  induction l with
  | nil => rfl
  | cons a l ih => simp [pv, ih]
theorem pv_get (l : List (Int × Int)) : ∀ i, i < l.length → (pv l)[i * 2]? = some (.int .i64 (l.getD i (0, 0)).1) ∧ (pv l)[i * 2 + 1]? = some (.int .i64 (l.getD i (0, 0)).2) := by
  induction l with
  | nil => intro i hi; simp at hi
  | cons a l ih =>
    intro i hi
    cases i with
    | zero => exact ⟨rfl, rfl⟩
    | succ i =>
      obtain ⟨h1, h2⟩ := ih i (by simpa using hi)
      rw [show (i + 1) * 2 = i * 2 + 1 + 1 by omega]
      exact ⟨h1, h2⟩
def In64 (z : Int) : Prop := -9223372036854775808 ≤ z ∧ z ≤ 9223372036854775807
structure Prs (W wr : World) (v : Value) (pl : List (Int × Int)) : Prop where
  own : wr.ownsRow W.heap.size 67 2 v pl.length (pv pl)
  bd : ∀ p ∈ pl, In64 p.1 ∧ In64 p.2
  bel : Below W.heap.size W wr
theorem Prs.row {W wr : World} {v : Value} {pl : List (Int × Int)} (h : Prs W wr v pl) : ∃ a cap, v = .slice a pl.length cap ∧ LRow wr a pl := by
  have hcell := fun g (e : v.ownBlock = some g) jx u hju => h.own.cells (g := g) e jx u hju
  have key : ∀ a, (∀ g, a = some g → g = ⟨g.block, 0, none⟩ ∧ v.ownBlock = some g.block) → (a = none → pl.length = 0) → LRow wr a pl := fun a h1 h2 i hi => by
    cases a with
    | none => have := h2 rfl; omega
    | some g =>
      obtain ⟨q1, q2⟩ := h1 g rfl
      obtain ⟨p1, p2⟩ := pv_get pl i hi
      have c1 := hcell _ q2 _ _ p1
      have c2 := hcell _ q2 _ _ p2
      rw [Addr.add_lit, Nat.zero_add] at c1 c2
      have hm : pl.getD i (0, 0) ∈ pl := by simp [List.getD, hi]
      exact ⟨g.block, 0, by rw [← q1], by simpa using c1, by simpa using c2, (h.bd _ hm).1, (h.bd _ hm).2⟩
  rcases h.own.2 with ⟨rfl, h0⟩ | ⟨g, cap, cur, rfl, _⟩
  · exact ⟨none, 0, by rw [h0], key none (fun g e => by cases e) (fun _ => h0)⟩
  · exact ⟨some ⟨g, 0, none⟩, cap, rfl, key _ (fun g' e => by cases e; exact ⟨rfl, rfl⟩) (fun e => by cases e)⟩
theorem Prs.step {W wr w5 : World} {v v' : Value} {pl : List (Int × Int)} {x y : Int} (h : Prs W wr v pl) (hx : In64 x) (hy : In64 y) (hg5 : (wr.alloc (.cells #[.int .i64 x, .int .i64 y] 67)).grownBy w5 v.ownBlock) (hown : w5.ownsRow W.heap.size 67 2 v' (pl.length + 1) (pv pl ++ [.int .i64 x, .int .i64 y])) : Prs W w5 v' (pl ++ [(x, y)]) := by
  have b4 : Below W.heap.size W (wr.alloc (.cells #[.int .i64 x, .int .i64 y] 67)) := h.bel.alloc h.bel.size _
  have o4 := h.own.alloc (.cells #[.int .i64 x, .int .i64 y] 67)
  refine ⟨by rw [List.length_append, pv_app]; exact hown, fun p hp => ?_, b4.grown hg5 b4.size (fun x hx => (o4.lt x hx).1)⟩
  rcases List.mem_append.1 hp with q | q
  · exact h.bd p q
  · simp at q; subst q; exact ⟨hx, hy⟩
def six (i : Nat) : List Int := [(i : Int), (i : Int) + 1, (i : Int) + 2, 1, 0, 2]
theorem six_bd (k : Nat) (hk : k ≤ 60) : ∀ i, -9223372036854775808 ≤ (six k).getD i 0 ∧ (six k).getD i 0 ≤ 9223372036854775807
  | 0 => by show _ ≤ ((k : Nat) : Int) ∧ ((k : Nat) : Int) ≤ _; omega
  | 1 => by show _ ≤ ((k : Nat) : Int) + 1 ∧ ((k : Nat) : Int) + 1 ≤ _; omega
  | 2 => by show _ ≤ ((k : Nat) : Int) + 2 ∧ ((k : Nat) : Int) + 2 ≤ _; omega
  | 3 => by show _ ≤ (1 : Int) ∧ (1 : Int) ≤ _; omega
  | 4 => by show _ ≤ (0 : Int) ∧ (0 : Int) ≤ _; omega
  | 5 => by show _ ≤ (2 : Int) ∧ (2 : Int) ≤ _; omega
  | n + 6 => by show _ ≤ (0 : Int) ∧ (0 : Int) ≤ _; omega
set_option maxRecDepth 100000 in
set_option maxHeartbeats 3000000 in
theorem journalLong_walk (a0 : Int) (a1 : Int) (a2 : Int) (w : World) (ht : Tab w) (w0 : (Lit.int .i64 a0).wf = true) (w1 : (Lit.int .i64 a1).wf = true) (w2 : (Lit.int .i64 a2).wf = true) :
    Calls Tryd.prog 12 #[.int .i64 a0, .int .i64 a1, .int .i64 a2] w fun e w' => e = .returned (.bool true) ∧ Below w.heap.size w w' := by
  have hF := Fr.law ht
  obtain ⟨c1, c2⟩ := bd64 w2
  have HAW : Hid _ := awake_any hF
  by_cases hA : 0 ≤ a0 ∧ a0 ≤ 60 ∧ 1 ≤ a1 ∧ a1 ≤ 12
  case neg =>
    clear hF ht
    by_cases n1 : 0 ≤ a0
    · by_cases n2 : a0 ≤ 60
      · by_cases n3 : 1 ≤ a1
        · have n4 : 12 < a1 := by omega
          clear hA
          go_enter Tryd.func12, Tryd.ntmps12
          go_wp2_with (go_at_call 15; refine Calls.mono HAW.out ?_; rintro e w2 ⟨rfl, hF2⟩)
          go_ret
          exact ⟨rfl, hF2.bel⟩
        · clear hA
          go_enter Tryd.func12, Tryd.ntmps12
          go_wp2_with (go_at_call 15; refine Calls.mono HAW.out ?_; rintro e w2 ⟨rfl, hF2⟩)
          go_ret
          exact ⟨rfl, hF2.bel⟩
      · clear hA
        go_enter Tryd.func12, Tryd.ntmps12
        go_wp2_with (go_at_call 15; refine Calls.mono HAW.out ?_; rintro e w2 ⟨rfl, hF2⟩)
        go_ret
        exact ⟨rfl, hF2.bel⟩
    · clear hA
      go_enter Tryd.func12, Tryd.ntmps12
      go_wp2_with (go_at_call 15; refine Calls.mono HAW.out ?_; rintro e w2 ⟨rfl, hF2⟩)
      go_ret
      exact ⟨rfl, hF2.bel⟩
  obtain ⟨n1, n2, n3, n4⟩ := hA
  obtain ⟨N, rfl⟩ := Int.eq_ofNat_of_zero_le n1
  obtain ⟨Ea, rfl⟩ := Int.eq_ofNat_of_zero_le (show 0 ≤ a1 by omega)
  obtain ⟨i0, hi, hz0, hz1, hz2⟩ := info_parts info67
  have HF : Hid _ := fresh_any hF
  have hz := info30 z30 z30_len
  have HJ0 : Hid (∀ w3 j dp d, Fr w.heap.size [] w w3 → JP w.heap.size [] w3 j dp d [] false → Rest d [] zs0 → d.n = 275 → d.cut = false → d.ops ≤ 3 → JS w.heap.size w (w3.alloc (.cells (av z30) 30)) w3.heap.size z30 j dp 3) := fun w3 j dp d h1 h2 h3 h4 h5 h6 => JS.fresh h1 h2 h3 h4 h5 h6
  clear hF ht w0 w1 w2
  go_enter Tryd.func12, Tryd.ntmps12
  go_wp2_with (first
    | (go_at_call 15; refine Calls.mono HAW.out ?_; rintro e wA ⟨rfl, hFA⟩)
    | (go_at_call 16; refine Calls.mono HF.out ?_; rintro e w3 ⟨dp, j, d, rfl, hF3, hJ3, hR3, hn3, hc3, ho3⟩; have hJS := HJ0.out w3 j dp d hF3 hJ3 hR3 hn3 hc3 ho3; clear hF3 hJ3 hR3 hn3 hc3 ho3))
  go_loopw [7, 8, 11] (fun dv jv i wr => ∃ k st j dp, k ≤ N ∧ i = .int .i64 ((k : Nat) : Int) ∧ dv = .pointer (some ⟨dp, 0, none⟩) ∧ jv = .pointer (some ⟨j, 0, none⟩) ∧ JS w.heap.size w wr w3.heap.size st j dp (3 + 345 * k)) (fun _ _ i _ => N - (intOf i).toNat)
  case atStart => exact ⟨0, z30, j, dp, by omega, rfl, rfl, rfl, hJS⟩
  case round =>
    clear hJS HJ0 HF HAW hz d
    obtain ⟨W, rfl⟩ : ∃ W, W = wr := ⟨_, rfl⟩
    obtain ⟨k, st, j, dp, hk, rfl, rfl, rfl, hS⟩ := hrel
    have hst := hS.len
    by_cases hlt : k < N
    · have hltI : (k : Int) < (N : Int) := by omega
      have hk60 : (k : Int) ≤ 60 := by omega
      have hE12 : (Ea : Int) ≤ 12 := by omega
      have hm1 : (k : Int) * (Ea : Int) ≤ 720 := by
        have := Int.mul_le_mul hk60 hE12 (by omega) (by omega)
        omega
      have hm0 : 0 ≤ (k : Int) * (Ea : Int) := Int.mul_nonneg (by omega) (by omega)
      have HSS : Hid _ := hS
      have hzs := info30 st hst
      go_wp2
      go_loopw [12, 13] (fun v q wi => ∃ x pl, x ≤ Ea ∧ q = .int .i64 ((x : Nat) : Int) ∧ pl.length = x ∧ Prs W wi v pl) (fun _ q _ => Ea - (intOf q).toNat)
      case atStart => exact ⟨0, [], by omega, rfl, rfl, ⟨World.ownsRow_nil _ _ _ _, by simp, Below.refl _ _⟩⟩
      case round =>
        clear hS
        obtain ⟨x, pl, hx, rfl, hpl, hP⟩ := hrel
        by_cases hlx : x < Ea
        · have hlxI : (x : Int) < (Ea : Int) := by omega
          have q1 : In64 ((k : Int) * (Ea : Int) + (x : Int) * 3) := ⟨by omega, by omega⟩
          have q2 : In64 ((k : Int) + (x : Int)) := ⟨by omega, by omega⟩
          have x1 : pl.length + 1 ≤ maxLen := by unfold maxLen; omega
          have x2 : (pl.length + 1) * 16 ≤ 140737488355328 := by omega
          have hB4 : Below W.heap.size W (wr.alloc (.cells #[.int .i64 ((k : Int) * (Ea : Int) + (x : Int) * 3), .int .i64 ((k : Int) + (x : Int))] 67)) := hP.bel.alloc hP.bel.size _
          have hown4 := hP.own.alloc (.cells #[.int .i64 ((k : Int) * (Ea : Int) + (x : Int) * 3), .int .i64 ((k : Int) + (x : Int))] 67)
          have hnw : ∀ (j : Nat) (u : Value), [Value.int .i64 ((k : Int) * (Ea : Int) + (x : Int) * 3), .int .i64 ((k : Int) + (x : Int))][j]? = some u → (wr.alloc (.cells #[.int .i64 ((k : Int) * (Ea : Int) + (x : Int) * 3), .int .i64 ((k : Int) + (x : Int))] 67)).cell? ((⟨wr.heap.size, 0, none⟩ : Addr).add j) = some u := by
            intro j u hj
            rw [Addr.add_lit, cell_of_row _ _ _ _ _ _ (heap_alloc_new wr _)]
            simpa using hj
          have h1c : ∀ u ∈ [Value.int .i64 ((k : Int) * (Ea : Int) + (x : Int) * 3), .int .i64 ((k : Int) + (x : Int))], u.oneCell' = true := by intro u hu; simp at hu; rcases hu with rfl | rfl <;> rfl
          have x3 := hB4.size
          have HP : Hid _ := hP
          clear hP
          go_wp2_with (at_builtin; refine wpList_append_own _ rfl _ _ 31 rfl W.heap.size 67 i0 (.agg #[.int .i64 0, .int .i64 0]) 2 16 Tryd.underlying31 hi hz0 hz1 hz2 rfl (by decide) u12 pl.length (pv pl) rfl hown4 ⟨wr.heap.size, 0, none⟩ 1 1 [Value.int .i64 ((k : Int) * (Ea : Int) + (x : Int) * 3), .int .i64 ((k : Int) + (x : Int))] rfl rfl hnw h1c x1 x2 x3 ?_; intro v' w7 hown7 hg7 hnil7)
          exact ⟨⟨x + 1, _, by omega, by go_num, by simp [hpl], HP.out.step q1 q2 hg7 hown7⟩, by simp [intOf]; omega⟩
        · obtain rfl : x = Ea := by omega
          subst hpl
          obtain ⟨la, cap, rfl, hrow⟩ := hP.row
          have hS6 := JS.below HSS.out hP.bel
          have hxb := hS6.box
          have hpm : pl.length ≤ 9223372036854775807 := by omega
          have hok := csOk pl st hst
          have hz2c := info30 _ hok.stl
          have hone := av_one (csOf pl st).st
          have hsz : (av z30).size = (av (csOf pl st).st).size := by rw [av_size, av_size, hok.stl]; rfl
          have hsz2 : (av st).size = (av (csOf pl st).st).size := by rw [av_size, av_size, hok.stl, hst]
          have HCC : Hid (Calls Tryd.prog 17 #[.slice la pl.length cap, .agg (av st)] wr fun e w6 => ∃ v, e = .returned (.tuple #[v, .agg (av (csOf pl st).st)]) ∧ ChgPost wr pl st e w6) := (changes_any la cap pl st wr hrow hpm hst).mono (fun e w6 h => by obtain ⟨v, gs, rfl, _⟩ := id h; exact ⟨v, rfl, h⟩)
          have HCM : Hid (∀ w6 v, ChgPost wr pl st (.returned (.tuple #[v, .agg (av (csOf pl st).st)])) w6 → Calls Tryd.prog 18 #[.pointer (some ⟨j, 0, none⟩), v] ((w6.alloc (.cells (av z30) 30)).setRow w6.heap.size (av (csOf pl st).st)) fun e w' => e = .returned (.int .i64 0) ∧ JM w.heap.size w w' w3.heap.size w6.heap.size st (csOf pl st).st j dp (3 + 345 * k + 345)) := fun w6 v h6 => hS6.commit (by omega) h6 (av z30)
          have HNEXT : Hid (∀ w9 b2, JM w.heap.size w w9 w3.heap.size b2 st (csOf pl st).st j dp (3 + 345 * k + 345) → JS w.heap.size w (w9.setRow w3.heap.size (av (csOf pl st).st)) w3.heap.size (csOf pl st).st j dp (3 + 345 * (k + 1))) := fun w9 b2 h => h.store.mono (by omega)
          have HCR : Hid (∀ wx, JS w.heap.size w wx w3.heap.size (csOf pl st).st j dp (3 + 345 * (k + 1)) → Calls Tryd.prog 29 #[.pointer (some ⟨dp, 0, none⟩), .slice (some ⟨wx.heap.size, 0, none⟩) 6 6] (wx.alloc (.cells #[.int .i64 (k : Int), .int .i64 ((k : Int) + 1), .int .i64 ((k : Int) + 2), .int .i64 1, .int .i64 0, .int .i64 2] 3)) fun e w' => ∃ c, e = .returned (.pointer (some ⟨c, 0, none⟩)) ∧ Calls Tryd.prog 31 #[.pointer (some ⟨c, 0, none⟩), .slice none 0 0, .slice none 0 0] w' (JOpen w.heap.size w w3.heap.size (csOf pl st).st)) := fun wx h => by
            have hb : Below wx.heap.size wx (wx.alloc (.cells #[.int .i64 (k : Int), .int .i64 ((k : Int) + 1), .int .i64 ((k : Int) + 2), .int .i64 1, .int .i64 0, .int .i64 2] 3)) := (Below.refl _ _).alloc (Nat.le_refl _) _
            have e := heap_alloc_new wx (.cells #[.int .i64 (k : Int), .int .i64 ((k : Int) + 1), .int .i64 ((k : Int) + 2), .int .i64 1, .int .i64 0, .int .i64 2] 3)
            refine (h.below hb).crash (some ⟨wx.heap.size, 0, none⟩) (six k) 6 (fun i hi => ?_) (by simp [six])
            refine ⟨wx.heap.size, 0, rfl, ?_, six_bd k (by omega) i⟩
            rw [cell_of_row _ _ _ _ _ _ e]
            simp [six] at hi
            rcases i with _ | _ | _ | _ | _ | _ | i <;> first | rfl | omega
          have HCR2 : Hid (∀ w9 : World, JS w.heap.size w (w9.setRow w3.heap.size (av (csOf pl st).st)) w3.heap.size (csOf pl st).st j dp (3 + 345 * (k + 1)) → Calls Tryd.prog 29 #[.pointer (some ⟨dp, 0, none⟩), .slice (some ⟨w9.heap.size, 0, none⟩) 6 6] ((w9.setRow w3.heap.size (av (csOf pl st).st)).alloc (.cells #[.int .i64 (k : Int), .int .i64 ((k : Int) + 1), .int .i64 ((k : Int) + 2), .int .i64 1, .int .i64 0, .int .i64 2] 3)) fun e w' => ∃ c, e = .returned (.pointer (some ⟨c, 0, none⟩)) ∧ Calls Tryd.prog 31 #[.pointer (some ⟨c, 0, none⟩), .slice none 0 0, .slice none 0 0] w' (JOpen w.heap.size w w3.heap.size (csOf pl st).st)) := fun w9 h => by
            have := HCR.out _ h
            rw [show (w9.setRow w3.heap.size (av (csOf pl st).st)).heap.size = w9.heap.size by simp] at this
            exact this
          have hst2 := hok.stl
          clear HSS hP hS6 hrow hok hm1 hm0 hE12 n1 n2 n3 n4 hi hz0 hz1 hz2
          generalize csOf pl st = c at *
          by_cases hcr : 0 < a2
          · go_wp2_with (first
              | (have _h := hxb; refine wpList_load_row rfl 30 _ rfl w3.heap.size rfl 30 (av st) (0, 0) _ hxb Tryd.underlying30 rfl hzs ?_; clear _h hxb)
              | (go_at_call 17; refine Calls.mono HCC.out ?_; rintro e w6 ⟨v, rfl, h6⟩; have hCM := HCM.out w6 v h6; have HCM2 : Hid _ := hCM; clear hCM h6; have e6 := heap_alloc_new w6 (.cells (av z30) 30))
              | (have _h := e6; refine wpList_store_row rfl 30 _ _ rfl w6.heap.size (av c.st) rfl rfl 30 (av z30) e6 hz2c hsz hone ?_; clear _h e6)
              | (go_at_call 18; refine Calls.mono HCM2.out ?_; rintro e w9 ⟨rfl, hM9⟩; obtain ⟨x9, y9, _, _⟩ := hM9.box; have hS9 := HNEXT.out w9 _ hM9; have HS9 : Hid (JS w.heap.size w (w9.setRow w3.heap.size (av c.st)) w3.heap.size c.st j dp (3 + 345 * (k + 1))) := hS9; have hx10 := hS9.box; clear hS9 hM9)
              | (have _h := y9; refine wpList_load_row rfl 30 _ rfl w6.heap.size rfl 30 (av c.st) (0, 0) _ y9 Tryd.underlying30 rfl hz2c ?_; clear _h y9)
              | (have _h := x9; refine wpList_store_row rfl 30 _ _ rfl w3.heap.size (av c.st) rfl rfl 30 (av st) x9 hz2c hsz2 hone ?_; clear _h x9)
              | (go_at_call 29; refine Calls.mono (HCR2.out w9 HS9.out) ?_; rintro e w11 ⟨cr, rfl, hOP⟩; have HOP : Hid (Calls Tryd.prog 31 #[.pointer (some ⟨cr, 0, none⟩), .slice none 0 0, .slice none 0 0] w11 (JOpen w.heap.size w w3.heap.size c.st)) := hOP; clear hOP)
              | (go_at_call 31; refine Calls.mono HOP.out ?_; rintro e w12 ⟨dp', j', rfl, hS12⟩; have x12 := hS12.box)
              | (have _h := x12; refine load_row_g rfl 30 _ rfl w3.heap.size rfl 30 (av c.st) (0, 0) _ x12 Tryd.underlying30 rfl hz2c ?_; clear _h x12)
              | (go_at_call 24; refine hS12.is.mono ?_; rintro e w13 ⟨rfl, hS13⟩))
            · exact ⟨⟨k + 1, c.st, j', dp', by omega, by go_num, rfl, rfl, hS13.mono (by omega)⟩, by simp [intOf]; omega⟩
            · exact ⟨⟨k + 1, c.st, j, dp, by omega, by go_num, rfl, rfl, HS9.out⟩, by simp [intOf]; omega⟩
          · go_wp2_with (first
              | (have _h := hxb; refine wpList_load_row rfl 30 _ rfl w3.heap.size rfl 30 (av st) (0, 0) _ hxb Tryd.underlying30 rfl hzs ?_; clear _h hxb)
              | (go_at_call 17; refine Calls.mono HCC.out ?_; rintro e w6 ⟨v, rfl, h6⟩; have hCM := HCM.out w6 v h6; have HCM2 : Hid _ := hCM; clear hCM h6; have e6 := heap_alloc_new w6 (.cells (av z30) 30))
              | (have _h := e6; refine wpList_store_row rfl 30 _ _ rfl w6.heap.size (av c.st) rfl rfl 30 (av z30) e6 hz2c hsz hone ?_; clear _h e6)
              | (go_at_call 18; refine Calls.mono HCM2.out ?_; rintro e w9 ⟨rfl, hM9⟩; obtain ⟨x9, y9, _, _⟩ := hM9.box; have hS9 := HNEXT.out w9 _ hM9; have HS9 : Hid (JS w.heap.size w (w9.setRow w3.heap.size (av c.st)) w3.heap.size c.st j dp (3 + 345 * (k + 1))) := hS9; clear hS9 hM9)
              | (have _h := y9; refine wpList_load_row rfl 30 _ rfl w6.heap.size rfl 30 (av c.st) (0, 0) _ y9 Tryd.underlying30 rfl hz2c ?_; clear _h y9)
              | (have _h := x9; refine wpList_store_row rfl 30 _ _ rfl w3.heap.size (av c.st) rfl rfl 30 (av st) x9 hz2c hsz2 hone ?_; clear _h x9))
            exact ⟨⟨k + 1, c.st, j, dp, by omega, by go_num, rfl, rfl, HS9.out⟩, by simp [intOf]; omega⟩
    · obtain rfl : k = N := by omega
      have hx := hS.box
      have hzs := info30 st hst
      go_wp2_with (first
        | (refine wpList_load_row rfl 30 _ rfl w3.heap.size rfl 30 (av st) (0, 0) _ hx Tryd.underlying30 rfl hzs ?_)
        | (go_at_call 24; refine hS.is.mono ?_; rintro e w5 ⟨rfl, hS5⟩)
        | (go_at_call 15; refine (awake_any hS5.fr).mono ?_; rintro e w6 ⟨rfl, hF6⟩))
      go_ret
      exact ⟨rfl, hF6.bel⟩
end Go.Proofs.YtmodjgailmpfmaaDoor
