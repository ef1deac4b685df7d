/- record: its row of steps is made. -/
import Derived.Test.YtohncckmennfbaaDoorJu
namespace Go.Proofs.YtohncckmennfbaaDoor
set_option linter.unusedSimpArgs false
set_option linter.unusedVariables false
open Go.RowKit Go.MapKept Go.Proofs
theorem CBox.lt {w : World} {b : Nat} {k : Int} {v : Value} (h : CBox w b k v) : b < w.heap.size := (Array.getElem?_eq_some_iff.1 h).1
theorem CBox.below {w w' : World} {b : Nat} {k : Int} {v : Value} (h : CBox w b k v) (hb : Below w.heap.size w w') : CBox w' b k v := (hb.block b h.lt).trans h
theorem CBox.grown {w w' : World} {b : Nat} {k : Int} {v : Value} (h : CBox w b k v) {base n : Nat} {r : Value} {xs : List Value} (ho : w.ownsRow base 111 1 r n xs) (hg : w.grownBy w' r.ownBlock) : CBox w' b k v := by
  refine (hg.block b h.lt (fun e => ?_)).trans h
  rcases ho.2 with ⟨rfl, _⟩ | ⟨g, cap, cur, rfl, _, hgg, _⟩
  · cases e
  · cases e
    unfold CBox at h
    rw [hgg] at h
    injection h with q
    injection q with _ q2
    exact absurd q2 (by decide)
structure RcAt (w0 wr : World) (jb sb : Nat) (hl : List Nat) (ds : List Value) (k : Nat) (v : Value) (bs : List (Nat × Nat)) : Prop where
  own : wr.ownsRow w0.heap.size 111 1 v bs.length (bs.map (f60 jb sb))
  len : bs.length = k
  box : ∀ x, x < bs.length → w0.heap.size ≤ (bs.getD x (0, 0)).1 ∧ w0.heap.size ≤ (bs.getD x (0, 0)).2 ∧ Box wr (bs.getD x (0, 0)).1 (.int .i64 (x : Int)) 3 ∧ CBox wr (bs.getD x (0, 0)).2 ((hl.getD x 0 : Nat) : Int) (ds.getD x undef)
  bel : Below w0.heap.size w0 wr
def RecPost (w : World) (j dp lk cap L : Nat) (hl : List Nat) (ds : List Value) (e : Ending) (w' : World) : Prop :=
  ∃ (v : Value) (jb lx sb : Nat) (bs : List (Nat × Nat)), e = .returned v ∧ w'.ownsRow w.heap.size 111 1 v (bs.length + 2) (bs.map (f60 jb sb) ++ [.func (.func 39) #[.pointer (some ⟨dp, 0, none⟩)] #[], .func (.func 78) #[] #[.pointer (some ⟨jb, 0, none⟩), .pointer (some ⟨lx, 0, none⟩), .pointer (some ⟨sb, 0, none⟩)]]) ∧ bs.length = hl.length ∧
    (w.heap.size ≤ jb ∧ w.heap.size ≤ lx ∧ w.heap.size ≤ sb) ∧ Box w' jb (.pointer (some ⟨j, 0, none⟩)) 49 ∧ Box w' lx (.slice (some ⟨lk, 0, none⟩) hl.length cap) 69 ∧ Box w' sb (.int .i64 ((L % 4 : Nat) : Int)) 3 ∧
    (∀ x, x < bs.length → w.heap.size ≤ (bs.getD x (0, 0)).1 ∧ w.heap.size ≤ (bs.getD x (0, 0)).2 ∧ Box w' (bs.getD x (0, 0)).1 (.int .i64 (x : Int)) 3 ∧ CBox w' (bs.getD x (0, 0)).2 ((hl.getD x 0 : Nat) : Int) (ds.getD x undef)) ∧ Below w.heap.size w w'
def rcW (w : World) (j lk n cap L : Nat) : World := ((w.alloc (.cells #[.pointer (some ⟨j, 0, none⟩)] 49)).alloc (.cells #[.slice (some ⟨lk, 0, none⟩) n cap] 69)).alloc (.cells #[.int .i64 ((L : Int) % 4)] 3)
theorem rcW_facts (w : World) (j lk n cap L : Nat) : Below w.heap.size w (rcW w j lk n cap L) ∧ (rcW w j lk n cap L).heap.size = w.heap.size + 3 ∧ Box (rcW w j lk n cap L) w.heap.size (.pointer (some ⟨j, 0, none⟩)) 49 ∧ Box (rcW w j lk n cap L) (w.heap.size + 1) (.slice (some ⟨lk, 0, none⟩) n cap) 69 ∧ Box (rcW w j lk n cap L) (w.heap.size + 2) (.int .i64 ((L % 4 : Nat) : Int)) 3 := by
  have b1 : Below w.heap.size w (w.alloc (.cells #[.pointer (some ⟨j, 0, none⟩)] 49)) := (Below.refl _ _).alloc (Nat.le_refl _) _
  have b2 : Below w.heap.size w ((w.alloc (.cells #[.pointer (some ⟨j, 0, none⟩)] 49)).alloc (.cells #[.slice (some ⟨lk, 0, none⟩) n cap] 69)) := b1.alloc b1.size _
  have s1 : (w.alloc (.cells #[.pointer (some ⟨j, 0, none⟩)] 49)).heap.size = w.heap.size + 1 := by show (w.heap.push _).size = _; simp
  have s2 : ((w.alloc (.cells #[.pointer (some ⟨j, 0, none⟩)] 49)).alloc (.cells #[.slice (some ⟨lk, 0, none⟩) n cap] 69)).heap.size = w.heap.size + 2 := by show ((w.heap.push _).push _).size = _; simp
  refine ⟨b2.alloc b2.size _, by show (((w.heap.push _).push _).push _).size = _; simp, ?_, ?_, ?_⟩
  · unfold Box rcW
    rw [Below.heap_alloc _ _ _ (by rw [s2]; omega), Below.heap_alloc _ _ _ (by rw [s1]; omega)]
    exact heap_alloc_new w _
  · unfold Box rcW
    rw [Below.heap_alloc _ _ _ (by rw [s2]; omega)]
    have := heap_alloc_new (w.alloc (.cells #[.pointer (some ⟨j, 0, none⟩)] 49)) (.cells #[.slice (some ⟨lk, 0, none⟩) n cap] 69)
    rw [s1] at this
    exact this
  · have := heap_alloc_new ((w.alloc (.cells #[.pointer (some ⟨j, 0, none⟩)] 49)).alloc (.cells #[.slice (some ⟨lk, 0, none⟩) n cap] 69)) (.cells #[.int .i64 ((L : Int) % 4)] 3)
    rw [s2] at this
    exact this
theorem RcAt.step {w0 wr W7 : World} {jb sb k : Nat} {hl : List Nat} {ds : List Value} {v v' : Value} {bs : List (Nat × Nat)} {W : World} (h : RcAt w0 wr jb sb hl ds k v bs) (b6 : Below wr.heap.size wr W) (x1 : Box W wr.heap.size (.int .i64 (k : Int)) 3) (x2 : CBox W (wr.heap.size + 1) ((hl.getD k 0 : Nat) : Int) (ds.getD k undef))
    (o6 : W.ownsRow w0.heap.size 111 1 v bs.length (bs.map (f60 jb sb))) (hg : W.grownBy W7 v.ownBlock) (hown : W7.ownsRow w0.heap.size 111 1 v' (bs.length + 1) ((bs.map (f60 jb sb)) ++ [f60 jb sb (wr.heap.size, wr.heap.size + 1)])) :
    RcAt w0 W7 jb sb hl ds (k + 1) v' (bs ++ [(wr.heap.size, wr.heap.size + 1)]) := by
  have hz := h.bel.size
  refine ⟨by rw [List.length_append, List.map_append]; exact hown, by rw [List.length_append, h.len]; rfl, fun x hx => ?_, (h.bel.trans (b6.mono hz)).grown hg (Nat.le_trans hz b6.size) (fun x hx => (h.own.lt x hx).1)⟩
  by_cases e : x < bs.length
  · have eg : (bs ++ [(wr.heap.size, wr.heap.size + 1)]).getD x (0, 0) = bs.getD x (0, 0) := by simp [List.getD, List.getElem?_append, e]
    rw [eg]
    obtain ⟨a1, a2, a3, a4⟩ := h.box x e
    exact ⟨a1, a2, (a3.below b6).grown o6 (by decide) hg, (a4.below b6).grown o6 hg⟩
  · obtain rfl : x = bs.length := by simp at hx; omega
    have eg : (bs ++ [(wr.heap.size, wr.heap.size + 1)]).getD bs.length (0, 0) = (wr.heap.size, wr.heap.size + 1) := by simp [List.getD]
    rw [eg, h.len]
    exact ⟨hz, by omega, x1.grown o6 (by decide) hg, x2.grown o6 hg⟩
set_option maxRecDepth 100000 in
theorem record_any {w : World} {j dp lk cap : Nat} {FP : List Nat} {d : Dv} {T : List (List Nat)} {off : Bool} {hl : List Nat} {ds : List Value} (h : Jour w j dp FP d T off) (hrow : ChRow w lk hl ds) (hne : hl ≠ []) (h60 : hl.length ≤ 60) :
    Calls Tryd.prog 54 #[.pointer (some ⟨j, 0, none⟩), .slice (some ⟨lk, 0, none⟩) hl.length cap] w (RecPost w j dp lk cap T.length hl ds) := by
  have hmf : ∀ (fn : Fn) (first cap : Array Value) (w : World), (Instr.makeFunc fn first cap).run Tryd.prog w = .ok (.func fn first cap) w := fun _ _ _ _ => rfl
  obtain ⟨i0, hi, hz0, hz1, hz2⟩ := info_parts info115
  have hlkl := hrow.lt hne
  obtain ⟨F, lb, rfl, hd, hj, _, _⟩ := id h
  obtain ⟨c0, c1, c2, c3⟩ := hj.c
  have hjl := hj.lt.1
  have h4 := hj.four
  have hlI : (hl.length : Int) ≤ 60 := by omega
  have HF : Hid _ := rcW_facts w j lk hl.length cap T.length
  have HJ : Hid (∀ w', Below w.heap.size w w' → w'.cell? ⟨j, 0, none⟩ = some (.pointer (some ⟨dp, 0, none⟩)) ∧ ChRow w' lk hl ds) := fun w' hb => ⟨(hj.below hb).c.1, hrow.blk (hb.block _ hlkl)⟩
  clear hd hj h hrow
  go_enter Tryd.func54, Tryd.ntmps54
  go_wp2
  go_loopw [4, 15] (fun v i wr => ∃ k bs, k ≤ hl.length ∧ i = .int .i64 (k : Int) ∧ RcAt (rcW w j lk hl.length cap T.length) wr w.heap.size (w.heap.size + 1 + 1) hl ds k v bs) (fun _ i _ => hl.length - (intOf i).toNat)
  case atStart => exact ⟨0, [], by omega, rfl, World.ownsRow_nil _ _ _ _, rfl, by intro x hx; simp at hx, Below.refl _ _⟩
  case round =>
    obtain ⟨k, bs, hk, rfl, hA⟩ := hrel
    have hll := hA.len
    have f1 := HF.out.1
    have f2 := HF.out.2.1
    have hbw : Below w.heap.size w wr := f1.trans (hA.bel.mono f1.size)
    obtain ⟨q0, q1⟩ := HJ.out wr hbw
    have hcj := (HF.out.2.2.1.below hA.bel).cell
    have hBw := hA.bel.size
    by_cases hlt : k < hl.length
    · have hltI : (k : Int) < (hl.length : Int) := by omega
      obtain ⟨r1, r2, a, len, cp, r3⟩ := q1.2 k hlt
      have HR3 : Hid _ := r3
      rw [r3] at r2
      obtain ⟨H, HH⟩ : ∃ H, hl.getD k 0 = H := ⟨_, rfl⟩
      have HHH : Hid (hl.getD k 0 = H) := HH
      rw [HH] at r1
      have s4 : (wr.alloc (.cells #[.int .i64 (k : Int)] 3)).heap.size = wr.heap.size + 1 := by show (wr.heap.push _).size = _; simp
      have s5 : ((wr.alloc (.cells #[.int .i64 (k : Int)] 3)).alloc (.cells #[.int .i64 (H : Int), .slice a len cp] 94)).heap.size = wr.heap.size + 2 := by show ((wr.heap.push _).push _).size = _; simp
      have b4 : Below wr.heap.size wr (wr.alloc (.cells #[.int .i64 (k : Int)] 3)) := (Below.refl _ _).alloc (Nat.le_refl _) _
      have b5 : Below wr.heap.size wr ((wr.alloc (.cells #[.int .i64 (k : Int)] 3)).alloc (.cells #[.int .i64 (H : Int), .slice a len cp] 94)) := b4.alloc b4.size _
      have HB6 : Hid (Below wr.heap.size wr (((wr.alloc (.cells #[.int .i64 (k : Int)] 3)).alloc (.cells #[.int .i64 (H : Int), .slice a len cp] 94)).alloc (.cells #[Value.func (.func 77) #[] #[.pointer (some ⟨w.heap.size, 0, none⟩), .pointer (some ⟨w.heap.size + 1 + 1, 0, none⟩), .pointer (some ⟨wr.heap.size, 0, none⟩), .pointer (some ⟨wr.heap.size + 1, 0, none⟩)]] 111))) := b5.alloc b5.size _
      have HX1 : Hid (Box (((wr.alloc (.cells #[.int .i64 (k : Int)] 3)).alloc (.cells #[.int .i64 (H : Int), .slice a len cp] 94)).alloc (.cells #[Value.func (.func 77) #[] #[.pointer (some ⟨w.heap.size, 0, none⟩), .pointer (some ⟨w.heap.size + 1 + 1, 0, none⟩), .pointer (some ⟨wr.heap.size, 0, none⟩), .pointer (some ⟨wr.heap.size + 1, 0, none⟩)]] 111)) wr.heap.size (.int .i64 (k : Int)) 3) := by
        show _ = _
        rw [Below.heap_alloc _ _ _ (by rw [s5]; omega), Below.heap_alloc _ _ _ (by rw [s4]; omega)]
        exact heap_alloc_new wr _
      have HX2 : Hid (CBox (((wr.alloc (.cells #[.int .i64 (k : Int)] 3)).alloc (.cells #[.int .i64 (H : Int), .slice a len cp] 94)).alloc (.cells #[Value.func (.func 77) #[] #[.pointer (some ⟨w.heap.size, 0, none⟩), .pointer (some ⟨w.heap.size + 1 + 1, 0, none⟩), .pointer (some ⟨wr.heap.size, 0, none⟩), .pointer (some ⟨wr.heap.size + 1, 0, none⟩)]] 111)) (wr.heap.size + 1) (H : Int) (.slice a len cp)) := by
        show _ = _
        rw [Below.heap_alloc _ _ _ (by rw [s5]; omega)]
        have := heap_alloc_new (wr.alloc (.cells #[.int .i64 (k : Int)] 3)) (.cells #[.int .i64 (H : Int), .slice a len cp] 94)
        rw [s4] at this
        exact this
      have hown6 := ((hA.own.alloc (.cells #[.int .i64 (k : Int)] 3)).alloc (.cells #[.int .i64 (H : Int), .slice a len cp] 94)).alloc (.cells #[Value.func (.func 77) #[] #[.pointer (some ⟨w.heap.size, 0, none⟩), .pointer (some ⟨w.heap.size + 1 + 1, 0, none⟩), .pointer (some ⟨wr.heap.size, 0, none⟩), .pointer (some ⟨wr.heap.size + 1, 0, none⟩)]] 111)
      have hnw : ∀ (j : Nat) (u : Value), [Value.func (.func 77) #[] #[.pointer (some ⟨w.heap.size, 0, none⟩), .pointer (some ⟨w.heap.size + 1 + 1, 0, none⟩), .pointer (some ⟨wr.heap.size, 0, none⟩), .pointer (some ⟨wr.heap.size + 1, 0, none⟩)]][j]? = some u → (((wr.alloc (.cells #[.int .i64 (k : Int)] 3)).alloc (.cells #[.int .i64 (H : Int), .slice a len cp] 94)).alloc (.cells #[Value.func (.func 77) #[] #[.pointer (some ⟨w.heap.size, 0, none⟩), .pointer (some ⟨w.heap.size + 1 + 1, 0, none⟩), .pointer (some ⟨wr.heap.size, 0, none⟩), .pointer (some ⟨wr.heap.size + 1, 0, none⟩)]] 111)).cell? ((⟨wr.heap.size + 1 + 1, 0, none⟩ : Addr).add j) = some u := by
        intro j u hj
        have e := heap_alloc_new ((wr.alloc (.cells #[.int .i64 (k : Int)] 3)).alloc (.cells #[.int .i64 (H : Int), .slice a len cp] 94)) (.cells #[Value.func (.func 77) #[] #[.pointer (some ⟨w.heap.size, 0, none⟩), .pointer (some ⟨w.heap.size + 1 + 1, 0, none⟩), .pointer (some ⟨wr.heap.size, 0, none⟩), .pointer (some ⟨wr.heap.size + 1, 0, none⟩)]] 111)
        rw [s5] at e
        rw [Addr.add_lit, cell_of_row _ _ _ _ _ _ e]
        simpa using hj
      have h1c : ∀ u ∈ [Value.func (.func 77) #[] #[.pointer (some ⟨w.heap.size, 0, none⟩), .pointer (some ⟨w.heap.size + 1 + 1, 0, none⟩), .pointer (some ⟨wr.heap.size, 0, none⟩), .pointer (some ⟨wr.heap.size + 1, 0, none⟩)]], u.oneCell' = true := by intro u hu; simp at hu; subst hu; rfl
      have x1 : bs.length + 1 ≤ maxLen := by unfold maxLen; omega
      have x2 : (bs.length + 1) * 8 ≤ 140737488355328 := by omega
      have x3 : (rcW w j lk hl.length cap T.length).heap.size ≤ (((wr.alloc (.cells #[.int .i64 (k : Int)] 3)).alloc (.cells #[.int .i64 (H : Int), .slice a len cp] 94)).alloc (.cells #[Value.func (.func 77) #[] #[.pointer (some ⟨w.heap.size, 0, none⟩), .pointer (some ⟨w.heap.size + 1 + 1, 0, none⟩), .pointer (some ⟨wr.heap.size, 0, none⟩), .pointer (some ⟨wr.heap.size + 1, 0, none⟩)]] 111)).heap.size := Nat.le_trans hBw HB6.out.size
      clear HH r3 q1 f1 f2 s4 s5 b4 b5
      go_wp2_with (at_builtin; refine wpList_append_own _ rfl _ _ 90 rfl (rcW w j lk hl.length cap T.length).heap.size 111 i0 .nilFunc 1 8 Tryd.underlying90 hi hz0 hz1 hz2 rfl (by decide) u4 bs.length _ rfl hown6 ⟨wr.heap.size + 1 + 1, 0, none⟩ 1 1 [Value.func (.func 77) #[] #[.pointer (some ⟨w.heap.size, 0, none⟩), .pointer (some ⟨w.heap.size + 1 + 1, 0, none⟩), .pointer (some ⟨wr.heap.size, 0, none⟩), .pointer (some ⟨wr.heap.size + 1, 0, none⟩)]] rfl rfl hnw h1c x1 x2 x3 ?_; intro v' w7 hown7 hg7 hnil7)
      have hN := hA.step HB6.out HX1.out (by rw [HHH.out, HR3.out]; exact HX2.out) hown6 hg7 hown7
      exact ⟨⟨k + 1, _, by omega, by go_num, hN⟩, by simp [intOf]; omega⟩
    · obtain rfl : k = hl.length := by omega
      have hown6 := hA.own.alloc (.cells #[Value.func (.func 39) #[.pointer (some ⟨dp, 0, none⟩)] #[], .func (.func 78) #[] #[.pointer (some ⟨w.heap.size, 0, none⟩), .pointer (some ⟨w.heap.size + 1, 0, none⟩), .pointer (some ⟨w.heap.size + 1 + 1, 0, none⟩)]] 111)
      have hnw : ∀ (j : Nat) (u : Value), [Value.func (.func 39) #[.pointer (some ⟨dp, 0, none⟩)] #[], .func (.func 78) #[] #[.pointer (some ⟨w.heap.size, 0, none⟩), .pointer (some ⟨w.heap.size + 1, 0, none⟩), .pointer (some ⟨w.heap.size + 1 + 1, 0, none⟩)]][j]? = some u → (wr.alloc (.cells #[Value.func (.func 39) #[.pointer (some ⟨dp, 0, none⟩)] #[], .func (.func 78) #[] #[.pointer (some ⟨w.heap.size, 0, none⟩), .pointer (some ⟨w.heap.size + 1, 0, none⟩), .pointer (some ⟨w.heap.size + 1 + 1, 0, none⟩)]] 111)).cell? ((⟨wr.heap.size, 0, none⟩ : Addr).add j) = some u := by
        intro j u hj
        have e := heap_alloc_new wr (.cells #[Value.func (.func 39) #[.pointer (some ⟨dp, 0, none⟩)] #[], .func (.func 78) #[] #[.pointer (some ⟨w.heap.size, 0, none⟩), .pointer (some ⟨w.heap.size + 1, 0, none⟩), .pointer (some ⟨w.heap.size + 1 + 1, 0, none⟩)]] 111)
        rw [Addr.add_lit, cell_of_row _ _ _ _ _ _ e]
        simpa using hj
      have h1c : ∀ u ∈ [Value.func (.func 39) #[.pointer (some ⟨dp, 0, none⟩)] #[], .func (.func 78) #[] #[.pointer (some ⟨w.heap.size, 0, none⟩), .pointer (some ⟨w.heap.size + 1, 0, none⟩), .pointer (some ⟨w.heap.size + 1 + 1, 0, none⟩)]], u.oneCell' = true := by intro u hu; simp at hu; rcases hu with rfl | rfl <;> rfl
      have x1 : bs.length + 2 ≤ maxLen := by unfold maxLen; omega
      have x2 : (bs.length + 2) * 8 ≤ 140737488355328 := by omega
      have b5 : Below wr.heap.size wr (wr.alloc (.cells #[Value.func (.func 39) #[.pointer (some ⟨dp, 0, none⟩)] #[], .func (.func 78) #[] #[.pointer (some ⟨w.heap.size, 0, none⟩), .pointer (some ⟨w.heap.size + 1, 0, none⟩), .pointer (some ⟨w.heap.size + 1 + 1, 0, none⟩)]] 111)) := (Below.refl _ _).alloc (Nat.le_refl _) _
      have x3 : (rcW w j lk hl.length cap T.length).heap.size ≤ (wr.alloc (.cells #[Value.func (.func 39) #[.pointer (some ⟨dp, 0, none⟩)] #[], .func (.func 78) #[] #[.pointer (some ⟨w.heap.size, 0, none⟩), .pointer (some ⟨w.heap.size + 1, 0, none⟩), .pointer (some ⟨w.heap.size + 1 + 1, 0, none⟩)]] 111)).heap.size := Nat.le_trans hBw b5.size
      have HB5 : Hid _ := b5
      clear b5
      go_wp2_with (at_builtin; refine wpList_append_own _ rfl _ _ 90 rfl (rcW w j lk hl.length cap T.length).heap.size 111 i0 .nilFunc 1 8 Tryd.underlying90 hi hz0 hz1 hz2 rfl (by decide) u4 bs.length _ rfl hown6 ⟨wr.heap.size, 0, none⟩ 2 2 [Value.func (.func 39) #[.pointer (some ⟨dp, 0, none⟩)] #[], .func (.func 78) #[] #[.pointer (some ⟨w.heap.size, 0, none⟩), .pointer (some ⟨w.heap.size + 1, 0, none⟩), .pointer (some ⟨w.heap.size + 1 + 1, 0, none⟩)]] rfl rfl hnw h1c x1 x2 x3 ?_; intro v' w7 hown7 hg7 hnil7)
      go_ret
      have b6 := HB5.out
      have hbe : Below (rcW w j lk hl.length cap T.length).heap.size (rcW w j lk hl.length cap T.length) w7 := (hA.bel.trans (b6.mono hBw)).grown hg7 x3 (fun x hx => (hA.own.lt x hx).1)
      refine ⟨v', w.heap.size, w.heap.size + 1, w.heap.size + 1 + 1, bs, rfl, owns_base hown7 f1.size, hll, ⟨Nat.le_refl _, by omega, by omega⟩, HF.out.2.2.1.below hbe, HF.out.2.2.2.1.below hbe, HF.out.2.2.2.2.below hbe, fun x hx => ?_, f1.trans (hbe.mono f1.size)⟩
      obtain ⟨a1, a2, a3, a4⟩ := hA.box x hx
      exact ⟨Nat.le_trans f1.size a1, Nat.le_trans f1.size a2, (a3.below b6).grown hown6 (by decide) hg7, (a4.below b6).grown hown6 hg7⟩
end Go.Proofs.YtohncckmennfbaaDoor
