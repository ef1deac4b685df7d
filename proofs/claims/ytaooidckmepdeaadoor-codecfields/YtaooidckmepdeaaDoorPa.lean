/- The document's pen: Lay, short, text. -/
import Derived.Test.YtaooidckmepdeaaDoorGm
namespace Go.Proofs.YtaooidckmepdeaaDoor
set_option linter.unusedSimpArgs false
set_option linter.unusedVariables false
open Go.RowKit
/-- The first k bytes of a number of n. -/
theorem lay_take (n V k : Nat) (h : k < n) : (lay n V).take (k + 1) = (lay n V).take k ++ [V / 256 ^ (n - 1 - k) % 256] := by
  rw [List.take_succ_eq_append_getElem (by rw [lay_len]; exact h)]
  simp [lay]
def LayP (w0 : World) (B : Nat) (l : List Nat) (w : World) (e : Ending) (w' : World) : Prop := ∃ v', e = .returned v' ∧ w'.ownsRow B 5 1 v' l.length (cv l) ∧ Below B w0 w' ∧ ∀ B', KeepT B' w w'
set_option maxHeartbeats 800000 in
set_option maxRecDepth 100000 in
theorem lay_any (v : Value) (l : List Nat) (n V : Nat) (w w0 : World) (B : Nat) (hown : w.ownsRow B 5 1 v l.length (cv l)) (hB : Below B w0 w) (hB0 : B ≤ w0.heap.size) (hl : l.length ≤ 1000000000000) (hn : n ≤ 8) (hV : V ≤ 18446744073709551615) :
    Calls Tryd.prog 29 #[v, .int .i64 n, .int .u64 V] w (LayP w0 B (l ++ lay n V) w) := by
  obtain ⟨i0, hi, hz0, hz1, hz2⟩ := info_parts Tryd.info5
  obtain ⟨F, HF⟩ : ∃ F : Nat → List Nat, Hid (∀ k, l ++ (lay n V).take k = F k) := ⟨_, fun _ => rfl⟩
  have HS : Hid (∀ k, k < n → F (k + 1) = F k ++ [V / 256 ^ (n - 1 - k) % 256]) := fun k hk => by rw [← HF.out, ← HF.out, lay_take n V k hk, List.append_assoc]
  have HF0 : Hid (F 0 = l) := by show _ = _; rw [← HF.out]; simp
  have HFn : Hid (F n = l ++ lay n V) := by show _ = _; rw [← HF.out, List.take_of_length_le (by rw [lay_len]; omega)]
  have HFl : Hid (∀ k, k ≤ n → (F k).length ≤ 1000000000100) := fun k hk => by rw [← HF.out, List.length_append, List.length_take]; omega
  rw [← HFn.out]
  go_enter Tryd.func29, Tryd.ntmps29
  go_wp2_with fail
  go_loopw [0, 7] (fun p i wr => ∃ k : Nat, k ≤ n ∧ i = .int .i64 ((n : Int) - 1 - k) ∧ wr.ownsRow B 5 1 p (F k).length (cv (F k)) ∧ Below B w0 wr ∧ ∀ B', KeepT B' w wr) (fun _ i _ => (intOf i + 1).toNat)
  case atStart => exact ⟨0, by omega, by go_num, by rw [HF0.out]; exact hown, hB, fun B' => KeepT.refl _ _⟩
  case round =>
    clear hown hB
    obtain ⟨k, hk, rfl, hown, hB, hK⟩ := hrel
    have hBs : B ≤ wr.heap.size := Nat.le_trans hB0 hB.size
    have HK : Hid (∀ B', KeepT B' w wr) := hK
    clear hK
    by_cases hlt : k < n
    · have HL : Hid (F (k + 1) = F k ++ [V / 256 ^ (n - 1 - k) % 256]) := HS.out k hlt
      have hfl := HFl.out k hk
      obtain ⟨j, HJ⟩ : ∃ j, Hid (n - 1 - k = j) := ⟨_, rfl⟩
      have hj : (n : Int) - 1 - k = (j : Int) := by have := HJ.out; omega
      have hj8 : j < 8 := by have := HJ.out; omega
      have hjn : j < n := by have := HJ.out; omega
      rw [HJ.out] at HL
      rw [hj]
      have x1 : IntKind.i64.wrap (8 * (j : Int)) = 8 * (j : Int) := by rw [IntKind.wrap_i64]; omega
      have x3 : (0 : Int) ≤ 8 * (j : Int) := by omega
      have x4 : 8 * (j : Int) ≤ 64 := by omega
      have x5 : (8 * (j : Int)).toNat = 8 * j := by omega
      have hby := byte_at V j
      have x8 : IntKind.u8.wrap ((V : Int) / 2 ^ (8 * j)) = ((V / 256 ^ j % 256 : Nat) : Int) := by rw [IntKind.wrap_u8, hby]
      have HJI : Hid ((n : Int) - 1 - ((k + 1 : Nat) : Int) = (j : Int) - 1) := by have := HJ.out; show _ = _; omega
      clear hby hj
      generalize V / 256 ^ j % 256 = d at *
      go_wp2_with (at_builtin; refine wpList_append_own _ rfl _ _ 29 rfl B 5 i0 (.int .u8 0) 1 1 Tryd.underlying29 hi hz0 hz1 hz2 rfl (by decide) _ _ _ rfl (hown.alloc _) ⟨wr.heap.size, 0, none⟩ 1 1 (cv [d]) rfl rfl (one_cell rfl) (cv_one _) (by unfold maxLen; omega) (by omega) (by simp; omega) ?_; intro v2 w2 hown2 hg2 hq; obtain ⟨hR, hB2⟩ := own_step hown hB hBs hown2 hg2; have hBs2 := hB2.size; have HK2 : Hid (∀ B', KeepT B' w w2) := (fun B' => ((HK.out B').trans (KeepT.of_below (below_box _))).trans (KeepT.grown (hown.alloc _) hg2)); clear hown2 hg2 hq)
      exact ⟨⟨k + 1, by omega, by rw [HJI.out], by rw [HL.out]; exact hR, hB2, HK2.out⟩, by simp [intOf]⟩
    · obtain rfl : k = n := by omega
      have hlt2 : ¬ (0 : Int) ≤ (k : Int) - 1 - k := by omega
      go_wp2_with fail
      go_ret
      exact ⟨_, rfl, hown, hB, HK.out⟩
/-- The pen in block P: what was laid, or that something may not be. -/
structure PnS (w0 : World) (P : Nat) (w : World) (st : Ls) (N : Nat) : Prop where
  ex : ∃ v l, w.heap[P]? = some (.cells #[v, .bool st.isNone] 79 (0, 0)) ∧ w.ownsRow w0.heap.size 5 1 v l.length (cv l) ∧ Byt l ∧ l.length ≤ N ∧ ∀ L, st = some L → l = L
  bel : Below w0.heap.size w0 w
  low : w0.heap.size ≤ P
theorem PnS.below {w0 w w' : World} {P : Nat} {st : Ls} {N : Nat} (h : PnS w0 P w st N) (hb : Below w.heap.size w w') : PnS w0 P w' st N := by
  obtain ⟨v, l, hx, ho, r⟩ := h.ex
  exact ⟨⟨v, l, (hb.block _ (Array.getElem?_eq_some_iff.1 hx).1).trans hx, own_any ho hb, r⟩, h.bel.trans (hb.mono h.bel.size), h.low⟩
theorem PnS.mono {w0 w : World} {P : Nat} {st : Ls} {N M : Nat} (h : PnS w0 P w st N) (hm : N ≤ M) : PnS w0 P w st M := by
  obtain ⟨v, l, hx, ho, hb, hl, hs⟩ := h.ex
  exact ⟨⟨v, l, hx, ho, hb, Nat.le_trans hl hm, hs⟩, h.bel, h.low⟩
theorem PnS.setBad {w0 w : World} {P : Nat} {st : Ls} {N : Nat} (h : PnS w0 P w st N) : PnS w0 P (w.setCell ⟨P, 1, none⟩ (.bool true)) none N ∧ KeepT P w (w.setCell ⟨P, 1, none⟩ (.bool true)) := by
  obtain ⟨v, l, hx, ho, hbt, hl, hs⟩ := h.ex
  refine ⟨⟨⟨v, l, ?_, own_setCell ho (own_box ho hx (by decide)), hbt, hl, fun L e => by cases e⟩, h.bel.setCell (p := ⟨P, 1, none⟩) h.low _, h.low⟩, KeepT.setCell _ _ _ _⟩
  rw [setCell_heap hx]
  rfl
theorem PnS.app {w0 w w1 : World} {P : Nat} {st : Ls} {N M : Nat} {v v' : Value} {l m : List Nat} (hx : w.heap[P]? = some (.cells #[v, .bool st.isNone] 79 (0, 0))) (hbt : Byt l) (hl : l.length ≤ N) (hs : ∀ L, st = some L → l = L)
    (low : w0.heap.size ≤ P) (ho' : w1.ownsRow w0.heap.size 5 1 v' (l ++ m).length (cv (l ++ m))) (b1 : Below w0.heap.size w0 w1) (hk : ∀ B', KeepT B' w w1) (hm : Byt m) (hM : N + m.length ≤ M) : PnS w0 P (w1.setCell ⟨P, 0, none⟩ v') (oa st (some m)) M ∧ KeepT P w (w1.setCell ⟨P, 0, none⟩ v') := by
  have hx1 : w1.heap[P]? = some (.cells #[v, .bool st.isNone] 79 (0, 0)) := (hk (P + 1)).blk P _ (by omega) hx (notB (by decide))
  refine ⟨⟨⟨v', l ++ m, ?_, own_setCell ho' (own_box ho' hx1 (by decide)), hbt.app hm, by rw [List.length_append]; omega, ?_⟩, b1.setCell (p := ⟨P, 0, none⟩) low _, low⟩, (hk P).trans (KeepT.setCell _ _ _ _)⟩
  · rw [setCell_heap hx1]
    cases st <;> rfl
  · intro L e
    obtain ⟨x, y, e1, e2, rfl⟩ := oa_some e
    rw [hs x e1]
    injection e2 with e2
    rw [e2]
/-- What a method of the pen leaves. -/
def PP (w0 : World) (P : Nat) (w : World) (st : Ls) (N : Nat) (e : Ending) (w' : World) : Prop := e = .returned (.tuple #[]) ∧ PnS w0 P w' st N ∧ KeepT P w w'
def eSh (n : Nat) : Ls := if n ≤ 65535 then some (lay 2 n) else none
/-- The pen's cells, opened. -/
theorem PnS.open {w0 w : World} {P : Nat} {st : Ls} {N : Nat} (h : PnS w0 P w st N) : ∃ a l c, w.cell? ⟨P, 0, none⟩ = some (.slice a l.length c) ∧ w.cell? ⟨P, 1, none⟩ = some (.bool st.isNone) ∧ w.frozen? ⟨P, 0, none⟩ = false ∧ w.frozen? ⟨P, 1, none⟩ = false ∧
    w.heap[P]? = some (.cells #[.slice a l.length c, .bool st.isNone] 79 (0, 0)) ∧ w.ownsRow w0.heap.size 5 1 (.slice a l.length c) l.length (cv l) ∧ Byt l ∧ l.length ≤ N ∧ ∀ L, st = some L → l = L := by
  obtain ⟨v, l, hx, ho, hbt, hl, hs⟩ := h.ex
  obtain ⟨a, c, rfl⟩ := own_slice ho
  exact ⟨a, l, c, (box_at hx 0).1, (box_at hx 1).1, (box_at hx 0).2, (box_at hx 1).2, hx, ho, hbt, hl, hs⟩
/-- What Lay told is to be stored into the pen. -/
def PL (w0 : World) (P : Nat) (w : World) (st : Ls) (N : Nat) (e : Ending) (w' : World) : Prop := ∃ a' k' c', e = .returned (.slice a' k' c') ∧ (∀ B', KeepT B' w w') ∧ PnS w0 P (w'.setCell ⟨P, 0, none⟩ (.slice a' k' c')) st N
theorem pen_lay {w0 w : World} {P : Nat} {st : Ls} {N : Nat} (hN : N ≤ 900000000000) (h : PnS w0 P w st N) :
    ∃ (a : Option Addr) (k : Nat) (c : Nat), w.heap[P]? = some (.cells #[.slice a k c, .bool st.isNone] 79 (0, 0)) ∧
      ∀ (n V : Nat), n ≤ 8 → V ≤ 18446744073709551615 → Calls Tryd.prog 29 #[.slice a k c, .int .i64 (n : Int), .int .u64 (V : Int)] w (PL w0 P w (oa st (some (lay n V))) (N + n)) := by
  obtain ⟨a, l, c, c0, c1, f0, f1, hx, ho, hbt, hl, hs⟩ := h.open
  refine ⟨a, l.length, c, hx, fun n V hn hV => ?_⟩
  refine Calls.mono (lay_any _ l n V w w0 w0.heap.size ho h.bel (Nat.le_refl _) (by omega) hn hV) ?_
  rintro e w' ⟨v', rfl, ho', hb', hk'⟩
  obtain ⟨a', c', rfl⟩ := own_slice ho'
  obtain ⟨q1, q2⟩ := PnS.app (M := N + n) hx hbt hl hs h.low ho' hb' hk' (lay_byt n V) (by rw [lay_len]; omega)
  exact ⟨a', _, c', rfl, hk', q1⟩
/-- The pen's box stays while Lay works. -/
theorem pen_box {P : Nat} {w w' : World} {cs : Array Value} (hx : w.heap[P]? = some (.cells cs 79 (0, 0))) (hk : ∀ B', KeepT B' w w') : w'.heap[P]? = some (.cells cs 79 (0, 0)) := (hk (P + 1)).blk P _ (by omega) hx (notB (by decide))
theorem pen_cells {P : Nat} {w : World} {a : Option Addr} {k c : Nat} {b : Bool} (hx : w.heap[P]? = some (.cells #[.slice a k c, .bool b] 79 (0, 0))) : w.cell? ⟨P, 0, none⟩ = some (.slice a k c) ∧ w.cell? ⟨P, 1, none⟩ = some (.bool b) ∧ w.frozen? ⟨P, 0, none⟩ = false ∧ w.frozen? ⟨P, 1, none⟩ = false :=
  ⟨(box_at hx 0).1, (box_at hx 1).1, (box_at hx 0).2, (box_at hx 1).2⟩
set_option maxHeartbeats 800000 in
set_option maxRecDepth 100000 in
theorem short_any (w0 w : World) (P : Nat) (st : Ls) (N n : Nat) (hN : N ≤ 900000000000) (hn : n ≤ 9223372036854775807) (h : PnS w0 P w st N) :
    Calls Tryd.prog 46 #[.pointer (some ⟨P, 0, none⟩), .int .i64 (n : Int)] w (PP w0 P w (oa st (eSh n)) (N + 2)) := by
  have hnI : (n : Int) ≤ 9223372036854775807 := by omega
  have e1 : IntKind.u64.wrap (n : Int) = (n : Int) := wu64 _ (by omega) (by omega)
  by_cases hl : (n : Int) > 65535
  · rw [show oa st (eSh n) = oa none (some (lay 2 n)) by unfold eSh; rw [if_neg (by omega), oa_none]; rfl]
    obtain ⟨a0, l0, k0, c0, c1, f0, f1, _⟩ := h.open
    obtain ⟨h1, hk1⟩ := h.setBad
    obtain ⟨a, k, c, hx, HC⟩ := pen_lay hN h1
    obtain ⟨d0, d1, g0, g1⟩ := pen_cells hx
    have HX : Hid _ := hx
    have HC2 : Hid (Calls Tryd.prog 29 #[.slice a k c, .int .i64 2, .int .u64 (n : Int)] (w.setCell ⟨P, 1, none⟩ (.bool true)) (PL w0 P (w.setCell ⟨P, 1, none⟩ (.bool true)) (oa none (some (lay 2 n))) (N + 2))) := HC 2 n (by decide) (by omega)
    have HK : Hid (KeepT P w (w.setCell ⟨P, 1, none⟩ (.bool true))) := hk1
    clear h h1 hk1 HC hx
    go_enter Tryd.func46, Tryd.ntmps46
    go_wp2_with (go_at_call 29; refine Calls.mono HC2.out ?_; rintro e w2 ⟨a', k', c', rfl, hk, hq⟩; have HQ : Hid (PnS w0 P (w2.setCell ⟨P, 0, none⟩ (.slice a' k' c')) (oa none (some (lay 2 n))) (N + 2)) := hq; have HK2 : Hid (KeepT P (w.setCell ⟨P, 1, none⟩ (.bool true)) w2) := hk P; clear d0 d1 g0 g1; obtain ⟨d0, d1, g0, g1⟩ := pen_cells (pen_box HX.out hk); clear hq hk)
    go_end0
    exact ⟨rfl, HQ.out, HK.out.trans (HK2.out.trans (KeepT.setCell _ _ _ _))⟩
  · rw [show eSh n = some (lay 2 n) by unfold eSh; rw [if_pos (by omega)]]
    obtain ⟨a, k, c, hx, HC⟩ := pen_lay hN h
    obtain ⟨d0, d1, g0, g1⟩ := pen_cells hx
    have HX : Hid _ := hx
    have HC2 : Hid (Calls Tryd.prog 29 #[.slice a k c, .int .i64 2, .int .u64 (n : Int)] w (PL w0 P w (oa st (some (lay 2 n))) (N + 2))) := HC 2 n (by decide) (by omega)
    clear h HC hx
    go_enter Tryd.func46, Tryd.ntmps46
    go_wp2_with (go_at_call 29; refine Calls.mono HC2.out ?_; rintro e w2 ⟨a', k', c', rfl, hk, hq⟩; have HQ : Hid (PnS w0 P (w2.setCell ⟨P, 0, none⟩ (.slice a' k' c')) (oa st (some (lay 2 n))) (N + 2)) := hq; have HK2 : Hid (KeepT P w w2) := hk P; clear d0 d1 g0 g1; obtain ⟨d0, d1, g0, g1⟩ := pen_cells (pen_box HX.out hk); clear hq hk)
    go_end0
    exact ⟨rfl, HQ.out, HK2.out.trans (KeepT.setCell _ _ _ _)⟩
theorem sh_text (st : Ls) (s : ByteArray) : oa (oa st (eSh s.size)) (some (sb s)) = oa st (eText s) := by
  unfold eSh eText
  split
  · rw [oa_assoc]; rfl
  · rw [oa_none, none_oa]
set_option maxHeartbeats 800000 in
set_option maxRecDepth 100000 in
theorem ptext_any (w0 w : World) (P : Nat) (st : Ls) (N : Nat) (s : ByteArray) (hN : N ≤ 700000000000) (hs : s.size ≤ 100000000000) (h : PnS w0 P w st N) :
    Calls Tryd.prog 44 #[.pointer (some ⟨P, 0, none⟩), .string s] w (PP w0 P w (oa st (eText s)) (N + 2 + s.size)) := by
  have HC : Hid (Calls Tryd.prog 46 #[.pointer (some ⟨P, 0, none⟩), .int .i64 (s.size : Int)] w (PP w0 P w (oa st (eSh s.size)) (N + 2))) := short_any w0 w P st N s.size (by omega) (by omega) h
  rw [← sh_text]
  have HL : Hid ((sb s).length = s.size) := sb_len s
  generalize oa st (eSh s.size) = st1 at *
  have hsI : (s.size : Int) ≤ 100000000000 := by omega
  have HLO : Hid (w0.heap.size ≤ P) := h.low
  clear h
  go_enter Tryd.func44, Tryd.ntmps44
  go_wp2_with (first
    | (go_at_call 46; refine Calls.mono HC.out ?_; rintro e w1 ⟨rfl, hw1, hk1⟩; have HK1 : Hid (KeepT P w w1) := hk1; have HBL : Hid (Below w0.heap.size w0 w1) := hw1.bel; obtain ⟨a, l, c, c0, c1, f0, f1, hx, ho, hbt, hl2, hs2⟩ := hw1.open; have HO : Hid (w1.ownsRow w0.heap.size 5 1 (.slice a l.length c) l.length (cv l)) := ho; have HX : Hid (w1.heap[P]? = some (.cells #[.slice a l.length c, .bool st1.isNone] 79 (0, 0))) := hx; have HS : Hid (∀ L, st1 = some L → l = L) := hs2; clear ho hx hs2 hw1 hk1)
    | (at_builtin; refine wpList_append_txt (by rfl) _ _ rfl w0.heap.size _ l rfl HO.out (HBL.out.size) s rfl (by omega) ?_; intro v' w2 ho2 hg2; obtain ⟨a2, c2, rfl⟩ := own_slice ho2; have HF : Hid _ := PnS.app (M := N + 2 + s.size) HX.out hbt hl2 HS.out HLO.out ho2 (HBL.out.grown hg2 HBL.out.size (fun k hk => (HO.out.lt k hk).1)) (fun B' => KeepT.grown HO.out hg2) (sb_byt s) (by rw [HL.out]; omega); have hq2 : Hid _ := (hg2.block P (Array.getElem?_eq_some_iff.1 HX.out).1 (fun e => own_box HO.out HX.out (by decide) _ e.symm rfl)).trans HX.out; have f2 := (box_at hq2.out 0).2; have d2 := (box_at hq2.out 0).1; simp only [List.getElem?_toArray, List.getElem?_cons_zero] at d2; clear ho2 hg2))
  go_end0
  have q := HF.out
  rw [List.length_append] at q
  exact ⟨rfl, q.1, HK1.out.trans q.2⟩
end Go.Proofs.YtaooidckmepdeaaDoor
