/- The document's own Encode. -/
import Derived.Test.YtbiniohacnaieaaDoorEn
import Derived.Test.YtbiniohacnaieaaDoorLat
import Derived.ArgAppend
import Derived.Laws.AppendOwnNone
namespace Go.Proofs.YtbiniohacnaieaaDoor
set_option linter.unusedSimpArgs false
set_option linter.unusedVariables false
open Go.RowKit
theorem own_le {B B' : Nat} {w : World} {g cap : Nat} {l : List Nat} (h : Own B w g cap l) (hb : B' ≤ B) : Own B' w g cap l :=
  ⟨h.1, h.2.elim Or.inl (fun ⟨g, cap, cur, hv, hg, r⟩ => Or.inr ⟨g, cap, cur, hv, Nat.le_trans hb hg, r⟩)⟩
/-- Bytes that may be appended to: those of the call's own, or such as have no room behind them. -/
def Buf (B : Nat) (w : World) (g cap : Nat) (l : List Nat) : Prop := Own B w g cap l ∨ (Row w (some ⟨g, 0, none⟩) l ∧ cap = l.length)
theorem Buf.row {B : Nat} {w : World} {g cap : Nat} {l : List Nat} (h : Buf B w g cap l) (hb : ∀ i, l.getD i 0 < 256) : Row w (some ⟨g, 0, none⟩) l := by
  rcases h with h | h
  · exact h.row hb
  · exact h.1
theorem Buf.below {B : Nat} {w w' : World} {g cap : Nat} {l : List Nat} (h : Buf B w g cap l) (hb : Below w.heap.size w w') : Buf B w' g cap l := by
  rcases h with h | h
  · exact .inl (h.below hb)
  · exact .inr ⟨h.1.below hb, h.2⟩
theorem buf_append {B : Nat} {w0 w : World} {g cap : Nat} {l : List Nat} (h : Buf B w g cap l) (hb : ∀ i, l.getD i 0 < 256) (h0 : 0 < l.length) (hB : Below B w0 w) (hBs : B ≤ w.heap.size)
    (ad : Addr) (m c : Nat) (hm0 : 0 < m) (news : List Nat) (hm : news.length = m) (hn : ∀ j u, (cv news)[j]? = some u → w.cell? (ad.add j) = some u) (h6 : l.length + m ≤ 100000) (ty : TypeId) :
    ∃ g' cap' w', (Builtin.append_ #[31, 31] ty #[.slice (some ⟨g, 0, none⟩) l.length cap, .slice (some ad) m c]).run Tryd.prog w = .ok (.slice (some ⟨g', 0, none⟩) (l.length + m) cap') w' ∧ Own B w' g' cap' (l ++ news) ∧ Below B w0 w' := by
  obtain ⟨i0, hi, hz0, hz1, hz2⟩ := info_parts Tryd.info5
  subst hm
  have hl : (cv l ++ cv news) = cv (l ++ news) := (cv_append l news).symm
  have hll : l.length + news.length = (l ++ news).length := by simp
  rcases h with h | ⟨hr, hc⟩
  · obtain ⟨v', w', e, ho, hg, _⟩ := run_append_own (P := Tryd.prog) w B 31 ty 5 i0 (.int .u8 0) 1 1 Tryd.underlying31 hi hz0 hz1 hz2 rfl (by decide) (.slice (some ⟨g, 0, none⟩) l.length cap) l.length (cv l) h ad news.length c (cv news) (by rw [cv_length]; omega) hn (cv_one _) (by unfold maxLen; omega) (by omega) hBs
    rw [hl, hll] at ho
    obtain ⟨g', cap', rfl, ho2⟩ := owns_some ho (by rw [← hll]; omega)
    rw [← hll] at e
    exact ⟨g', cap', w', e, ho2, own_bel h hB hBs hg⟩
  · obtain ⟨v', w', e, ho, hg⟩ := run_append_arg_grows (P := Tryd.prog) w 31 ty 5 i0 (.int .u8 0) 1 1 Tryd.underlying31 hi hz0 hz1 hz2 rfl (by decide) ⟨g, 0, none⟩ l.length cap (cv l) (by rw [cv_length]; omega) (row_news hr) ad news.length c (cv news) (by rw [cv_length]; omega) hn (by omega) (by unfold maxLen; omega) (by omega)
    rw [hl, hll] at ho
    obtain ⟨g', cap', rfl, ho2⟩ := owns_some ho (by rw [← hll]; omega)
    rw [← hll] at e
    exact ⟨g', cap', w', e, own_le ho2 hBs, hB.grown hg hBs (fun k hk => by cases hk)⟩
theorem wp_append_run {P : Program} {w w' : World} {o : Oper} {a : Act} {K : Act → World → Prop} {Q : Exit → Act → World → Prop} (s x : Operand) (t : TypeId)
    (ho : o.op = .call { callee := .builtin .append, args := #[s, x], argTypes := #[t, t] }) (v xv v' : Value) (hs : a.eval s = v) (hx : a.eval x = xv)
    (hr : (Builtin.append_ #[t, t] o.type #[v, xv]).run P w = .ok v' w') (h : K (a.put o.dst v') w') : o.wp P a w K Q := by
  unfold Oper.wp execOp
  simp only [ho, resolve, invoke, builtin, Sem.run_bind, Sem.run_pure, Result.andThen_ok, List.map_toArray, List.map_cons, List.map_nil, hs, hx, hr]
  exact h
theorem take4 (l : List Nat) (n : Nat) (h : n + 4 ≤ l.length) : l.take n ++ [l.getD n 0, l.getD (n + 1) 0, l.getD (n + 2) 0, l.getD (n + 3) 0] = l.take (n + 4) := by
  rw [← take_step l (n + 3) (by omega), ← take_step l (n + 2) (by omega), ← take_step l (n + 1) (by omega), ← take_step l n (by omega)]
  simp
theorem four_cells (w : World) (l : List Nat) : ∀ j u, (cv l)[j]? = some u → (w.alloc (.cells (cv l).toArray 5)).cell? ((⟨w.heap.size, 0, none⟩ : Addr).add j) = some u := by
  intro j u hj
  rw [Addr.add_lit, Nat.zero_add, cell_of_row _ w.heap.size j (cv l).toArray 5 (0, 0) (heap_alloc_new w _)]
  simpa using hj
def lenv : Value → Nat | .slice _ n _ => n | _ => 0
/-- The bytes of an int. -/
theorem byte_i (x : Int) (k : Nat) (h : k < 4) : (x / 256 ^ k) % 256 = (((x % 18446744073709551616).toNat / 256 ^ k % 256 : Nat) : Int) := by
  have h0 := Int.emod_nonneg x (show (18446744073709551616 : Int) ≠ 0 by decide)
  match k, h with
  | 0, _ => simp only [Nat.pow_zero, Nat.div_one, Int.pow_zero, Int.ediv_one]; omega
  | 1, _ => simp only [Nat.pow_one, Int.pow_one]; omega
  | 2, _ => rw [show (256 : Int) ^ 2 = 65536 from rfl, show (256 : Nat) ^ 2 = 65536 from rfl]; omega
  | 3, _ => rw [show (256 : Int) ^ 3 = 16777216 from rfl, show (256 : Nat) ^ 3 = 16777216 from rfl]; omega
theorem enc_byte (p : Pl) (k j : Nat) (hk : k < 7) (hj : j < 4) : (encL (nums p)).getD (8 + 4 * k + j) 0 = nums p k / 256 ^ j % 256 := by
  rw [encL_low _ _ (by omega)]
  unfold bodyB
  rw [if_neg (by omega), if_pos (by omega), show (8 + 4 * k + j - 8) / 4 = k by omega, show (8 + 4 * k + j - 8) % 4 = j by omega]
set_option maxRecDepth 100000 in
set_option maxHeartbeats 1000000 in
theorem rencode_any (p : Pl) (w : World) :
    Calls Tryd.prog 16 #[p.v] w fun e w' => (∃ g cap, e = .returned (.slice (some ⟨g, 0, none⟩) 512 cap) ∧ Own w.heap.size w' g cap (encL (nums p))) ∧ Below w.heap.size w w' := by
  obtain ⟨p1, p2, p3, p4, p5, p6, p7⟩ := p
  simp only [Pl.v]
  obtain ⟨w1, hw1⟩ : ∃ w1, w1 = w.alloc (.cells #[.int .i64 p1, .int .i64 p2, .int .i64 p3, .int .i64 p4, .int .i64 p5, .int .i64 p6, .int .i64 p7] 23) := ⟨_, rfl⟩
  have hs1 : w1.heap.size = w.heap.size + 1 := by rw [hw1]; simp
  have kc := fun (C : Array Value) (n c : Nat) => Lib.run_convert_bytes_const (P := Tryd.prog) w1 31 5 C n c Tryd.underlying31 Tryd.underlying5
  rw [hs1] at kc
  obtain ⟨w2, hw2⟩ : ∃ w2, w2 = w1.alloc (.cells (cv mag).toArray 5 (8, 9)) := ⟨_, rfl⟩
  have hs2 : w2.heap.size = w.heap.size + 2 := by rw [hw2]; simp [hs1]
  obtain ⟨W0, hW0⟩ : ∃ W0, W0 = w2.alloc (.cells #[.int .i64 p1, .int .i64 p2, .int .i64 p3, .int .i64 p4, .int .i64 p5, .int .i64 p6, .int .i64 p7] 3) := ⟨_, rfl⟩
  have hs0 : W0.heap.size = w.heap.size + 3 := by rw [hW0]; simp [hs2]
  obtain ⟨E, HE⟩ : ∃ E, Hid (encL (nums ⟨p1, p2, p3, p4, p5, p6, p7⟩) = E) := ⟨_, rfl⟩
  have hEl : E.length = 512 := by rw [← HE.out, encL_len]
  have hEb : ∀ i, E.getD i 0 < 256 := by rw [← HE.out]; exact encL_lt _
  have HT8 : Hid (E.take 8 = mag) := by
    show _ = _
    apply list_ext (by simp [hEl]; rfl)
    intro i hi
    have hi8 : i < 8 := by simp at hi; omega
    rw [take_get _ _ _ hi8, ← HE.out, encL_low _ _ (by omega)]
    unfold bodyB
    rw [if_pos hi8]
  have hbel0 : Below w.heap.size w W0 := by
    rw [hW0, hw2, hw1]
    exact (((Below.refl _ _).alloc (Nat.le_refl _) _).alloc (by simp) _).alloc (by simp; omega) _
  have hrow0 : Row W0 (some ⟨w.heap.size + 1, 0, none⟩) mag := by
    have r2 : Row w2 (some ⟨w.heap.size + 1, 0, none⟩) mag := by
      intro i hi
      refine ⟨w.heap.size + 1, 0, rfl, ?_, mag_lt i⟩
      rw [hw2, ← hs1, cell_of_row _ w1.heap.size (0 + i) (cv mag).toArray 5 (8, 9) (heap_alloc_new w1 _)]
      simpa using cv_get mag i hi
    rw [hW0]
    exact r2.below ((Below.refl _ _).alloc (Nat.le_refl _) _)
  have hcl0 : ∀ j, j < 7 → W0.cell? ⟨w.heap.size + 1 + 1, j, none⟩ = some (.int .i64 (fieldI ⟨p1, p2, p3, p4, p5, p6, p7⟩ j)) := by
    intro j hj
    rw [hW0, show w.heap.size + 1 + 1 = w2.heap.size by omega, cell_of_row _ w2.heap.size j _ 3 (0, 0) (heap_alloc_new w2 _)]
    match j, hj with
    | 0, _ => rfl
    | 1, _ => rfl
    | 2, _ => rfl
    | 3, _ => rfl
    | 4, _ => rfl
    | 5, _ => rfl
    | 6, _ => rfl
  rw [hw1] at kc
  rw [hw2, hw1] at hW0
  clear hw1 hw2 hs1 hs2
  go_enter Tryd.func16, Tryd.ntmps16
  go_wp2_with fail
  go_loopw [3, 5] (fun b i wr => ∃ (k g cap : Nat), k ≤ 7 ∧ i = .int .i64 k ∧ b = .slice (some ⟨g, 0, none⟩) (8 + 4 * k) cap ∧ Buf W0.heap.size wr g cap (E.take (8 + 4 * k)) ∧ Below W0.heap.size W0 wr) (fun _ i _ => 7 - (iof i).toNat)
  case atStart =>
    subst hW0
    exact ⟨0, w.heap.size + 1, 8, by omega, rfl, rfl, .inr ⟨by rw [HT8.out]; exact hrow0, by rw [HT8.out]; rfl⟩, Below.refl _ _⟩
  case round =>
    clear kc hrow0 hW0
    obtain ⟨k, g, cap, hk, rfl, rfl, hbuf, hbw⟩ := hrel
    have hlt8 : (E.take (8 + 4 * k)).length = 8 + 4 * k := by simp [hEl]; omega
    have hbt : ∀ i, (E.take (8 + 4 * k)).getD i 0 < 256 := by
      intro i
      by_cases hi : i < 8 + 4 * k
      · rw [take_get _ _ _ hi]; exact hEb i
      · rw [getD_out _ _ (by omega)]; omega
    by_cases hlt : k < 7
    · have hltI : (k : Int) < 7 := by omega
      have hk0 : (0 : Int) ≤ (k : Int) := by omega
      have hcell : wr.cell? ⟨w.heap.size + 1 + 1, k, none⟩ = some (.int .i64 (fieldI ⟨p1, p2, p3, p4, p5, p6, p7⟩ k)) := by
        rw [hbw.cell (World.block_lt_of_cell? _ _ (hcl0 k hlt))]; exact hcl0 k hlt
      have hcl : w.heap.size + 1 + 1 < wr.heap.size := World.block_lt_of_cell? _ _ hcell
      have d0 := enc_byte ⟨p1, p2, p3, p4, p5, p6, p7⟩ k 0 hlt (by omega)
      have d1 := enc_byte ⟨p1, p2, p3, p4, p5, p6, p7⟩ k 1 hlt (by omega)
      have d2 := enc_byte ⟨p1, p2, p3, p4, p5, p6, p7⟩ k 2 hlt (by omega)
      have d3 := enc_byte ⟨p1, p2, p3, p4, p5, p6, p7⟩ k 3 hlt (by omega)
      rw [HE.out] at d0 d1 d2 d3
      have x0 : IntKind.u8.wrap (fieldI ⟨p1, p2, p3, p4, p5, p6, p7⟩ k) = ((E.getD (8 + 4 * k) 0 : Nat) : Int) := by
        have := byte_i (fieldI ⟨p1, p2, p3, p4, p5, p6, p7⟩ k) 0 (by omega)
        rw [Int.pow_zero, Int.ediv_one] at this
        rw [IntKind.wrap_u8, this, ← Nat.add_zero (8 + 4 * k), d0]; rfl
      have x1 : IntKind.u8.wrap (fieldI ⟨p1, p2, p3, p4, p5, p6, p7⟩ k / 256) = ((E.getD (8 + 4 * k + 1) 0 : Nat) : Int) := by
        have := byte_i (fieldI ⟨p1, p2, p3, p4, p5, p6, p7⟩ k) 1 (by omega)
        rw [Int.pow_one] at this
        rw [IntKind.wrap_u8, this, d1]; rfl
      have x2 : IntKind.u8.wrap (fieldI ⟨p1, p2, p3, p4, p5, p6, p7⟩ k / 65536) = ((E.getD (8 + 4 * k + 2) 0 : Nat) : Int) := by
        have := byte_i (fieldI ⟨p1, p2, p3, p4, p5, p6, p7⟩ k) 2 (by omega)
        rw [show (256 : Int) ^ 2 = 65536 from rfl] at this
        rw [IntKind.wrap_u8, this, d2]; rfl
      have x3 : IntKind.u8.wrap (fieldI ⟨p1, p2, p3, p4, p5, p6, p7⟩ k / 16777216) = ((E.getD (8 + 4 * k + 3) 0 : Nat) : Int) := by
        have := byte_i (fieldI ⟨p1, p2, p3, p4, p5, p6, p7⟩ k) 3 (by omega)
        rw [show (256 : Int) ^ 3 = 16777216 from rfl] at this
        rw [IntKind.wrap_u8, this, d3]; rfl
      have HT4 : Hid (E.take (8 + 4 * k) ++ [E.getD (8 + 4 * k) 0, E.getD (8 + 4 * k + 1) 0, E.getD (8 + 4 * k + 2) 0, E.getD (8 + 4 * k + 3) 0] = E.take (8 + 4 * (k + 1))) := by
        show _ = _
        rw [take4 E (8 + 4 * k) (by omega)]; rfl
      clear d0 d1 d2 d3
      generalize E.getD (8 + 4 * k) 0 = d0 at *
      generalize E.getD (8 + 4 * k + 1) 0 = d1 at *
      generalize E.getD (8 + 4 * k + 2) 0 = d2 at *
      generalize E.getD (8 + 4 * k + 3) 0 = d3 at *
      have hDb : Below wr.heap.size wr wr.drew := ⟨rfl, rfl, rfl, Nat.le_refl _, fun _ _ => rfl⟩
      have hDa : Below wr.heap.size wr (wr.drew.alloc (.cells #[.int .u8 (d0 : Int), .int .u8 (d1 : Int), .int .u8 (d2 : Int), .int .u8 (d3 : Int)] 5)) := hDb.alloc (Nat.le_refl _) _
      obtain ⟨g', cap', w5, hap, hown5, hb5⟩ := buf_append (w0 := W0) (hbuf.below hDa) hbt (by omega) (hbw.trans (hDa.mono hbw.size)) (Nat.le_trans hbw.size hDa.size) ⟨wr.heap.size, 0, none⟩ 4 4 (by omega) [d0, d1, d2, d3] rfl (four_cells wr.drew [d0, d1, d2, d3]) (by omega) 31
      rw [HT4.out] at hown5
      rw [hlt8] at hap
      have hcell5 : w5.cell? ⟨w.heap.size + 1 + 1, k, none⟩ = some (.int .i64 (fieldI ⟨p1, p2, p3, p4, p5, p6, p7⟩ k)) := by
        rw [hb5.cell (World.block_lt_of_cell? _ _ (hcl0 k hlt))]; exact hcl0 k hlt
      have hcellA : (wr.drew.alloc (.cells #[.int .u8 (d0 : Int), .int .u8 (d1 : Int), .int .u8 (d2 : Int), .int .u8 (d3 : Int)] 5)).cell? ⟨w.heap.size + 1 + 1, k, none⟩ = some (.int .i64 (fieldI ⟨p1, p2, p3, p4, p5, p6, p7⟩ k)) := by
        rw [hDa.cell hcl]; exact hcell
      have HN8 : Hid (8 + 4 * (k + 1) = 8 + 4 * k + 4) := by show _ = _; omega
      generalize fieldI ⟨p1, p2, p3, p4, p5, p6, p7⟩ k = x at *
      go_wp2_with fail
      refine wp_region_lat (fun y => y.cell? ⟨w.heap.size + 1 + 1, k, none⟩ = some (.int .i64 x)) 26 (by kernel_rfl) hcell (fun hHeld => ?_)
      refine lat_take 0 (v := ?_) rfl (by kernel_rfl) (by kernel_rfl) (by kernel_rfl) (by kernel_rfl) (fun _ _ _ h => h) (by rfl) ?_ (by assumption) ?_
      rotate_left
      · (intro w hSw; (try dsimp only at hSw); go_simp <;> with_reducible rfl)
      try simp only [Act.put, List.setIfInBounds_toArray, List.set_cons_zero, List.set_cons_succ]
      refine lat_take 1 (v := ?_) rfl (by kernel_rfl) (by kernel_rfl) (by kernel_rfl) (by kernel_rfl) (fun _ _ _ h => h) (by rfl) ?_ (by assumption) ?_
      rotate_left
      · (intro w hSw; (try dsimp only at hSw); go_simp <;> with_reducible rfl)
      try simp only [Act.put, List.setIfInBounds_toArray, List.set_cons_zero, List.set_cons_succ]
      refine lat_take 2 (v := ?_) rfl (by kernel_rfl) (by kernel_rfl) (by kernel_rfl) (by kernel_rfl) (fun _ _ _ h => h) (by rfl) ?_ (by assumption) ?_
      rotate_left
      · (intro w hSw; (try dsimp only at hSw); go_simp <;> with_reducible rfl)
      try simp only [Act.put, List.setIfInBounds_toArray, List.set_cons_zero, List.set_cons_succ]
      refine lat_take 3 (v := ?_) rfl (by kernel_rfl) (by kernel_rfl) (by kernel_rfl) (by kernel_rfl) (fun _ _ _ h => h) (by rfl) ?_ (by assumption) ?_
      rotate_left
      · (intro w hSw; (try dsimp only at hSw); go_simp <;> with_reducible rfl)
      try simp only [Act.put, List.setIfInBounds_toArray, List.set_cons_zero, List.set_cons_succ]
      refine lat_take 4 (v := ?_) rfl (by kernel_rfl) (by kernel_rfl) (by kernel_rfl) (by kernel_rfl) (fun _ _ _ h => h) (by rfl) ?_ (by assumption) ?_
      rotate_left
      · (intro w hSw; (try dsimp only at hSw); go_simp <;> with_reducible rfl)
      try simp only [Act.put, List.setIfInBounds_toArray, List.set_cons_zero, List.set_cons_succ]
      refine lat_take 5 (v := ?_) rfl (by kernel_rfl) (by kernel_rfl) (by kernel_rfl) (by kernel_rfl) (fun _ _ _ h => h) (by rfl) ?_ (by assumption) ?_
      rotate_left
      · (intro w hSw; (try dsimp only at hSw); go_simp <;> with_reducible rfl)
      try simp only [Act.put, List.setIfInBounds_toArray, List.set_cons_zero, List.set_cons_succ]
      refine lat_take 6 (v := ?_) rfl (by kernel_rfl) (by kernel_rfl) (by kernel_rfl) (by kernel_rfl) (fun _ _ _ h => h) (by rfl) ?_ (by assumption) ?_
      rotate_left
      · (intro w hSw; (try dsimp only at hSw); go_simp <;> with_reducible rfl)
      try simp only [Act.put, List.setIfInBounds_toArray, List.set_cons_zero, List.set_cons_succ]
      refine lat_take 7 (v := ?_) rfl (by kernel_rfl) (by kernel_rfl) (by kernel_rfl) (by kernel_rfl) (fun _ _ _ h => h) (by rfl) ?_ (by assumption) ?_
      rotate_left
      · (intro w hSw; (try dsimp only at hSw); go_simp <;> with_reducible rfl)
      try simp only [Act.put, List.setIfInBounds_toArray, List.set_cons_zero, List.set_cons_succ]
      refine lat_take 8 (v := ?_) rfl (by kernel_rfl) (by kernel_rfl) (by kernel_rfl) (by kernel_rfl) (fun _ _ _ h => h) (by rfl) ?_ (by assumption) ?_
      rotate_left
      · (intro w hSw; (try dsimp only at hSw); go_simp <;> with_reducible rfl)
      try simp only [Act.put, List.setIfInBounds_toArray, List.set_cons_zero, List.set_cons_succ]
      refine lat_take 9 (v := ?_) rfl (by kernel_rfl) (by kernel_rfl) (by kernel_rfl) (by kernel_rfl) (fun _ _ _ h => h) (by rfl) ?_ (by assumption) ?_
      rotate_left
      · (intro w hSw; (try dsimp only at hSw); go_simp <;> with_reducible rfl)
      try simp only [Act.put, List.setIfInBounds_toArray, List.set_cons_zero, List.set_cons_succ]
      refine lat_take 10 (v := ?_) rfl (by kernel_rfl) (by kernel_rfl) (by kernel_rfl) (by kernel_rfl) (fun _ _ _ h => h) (by rfl) ?_ (by assumption) ?_
      rotate_left
      · (intro w hSw; (try dsimp only at hSw); go_simp <;> with_reducible rfl)
      try simp only [Act.put, List.setIfInBounds_toArray, List.set_cons_zero, List.set_cons_succ]
      refine lat_take 11 (v := ?_) rfl (by kernel_rfl) (by kernel_rfl) (by kernel_rfl) (by kernel_rfl) (fun _ _ _ h => h) (by rfl) ?_ (by assumption) ?_
      rotate_left
      · (intro w hSw; (try dsimp only at hSw); go_simp <;> with_reducible rfl)
      try simp only [Act.put, List.setIfInBounds_toArray, List.set_cons_zero, List.set_cons_succ]
      refine lat_take 12 (v := ?_) rfl (by kernel_rfl) (by kernel_rfl) (by kernel_rfl) (by kernel_rfl) (fun _ _ _ h => h) (by rfl) ?_ (by assumption) ?_
      rotate_left
      · (intro w hSw; (try dsimp only at hSw); go_simp <;> with_reducible rfl)
      try simp only [Act.put, List.setIfInBounds_toArray, List.set_cons_zero, List.set_cons_succ]
      refine lat_take 13 (v := ?_) rfl (by kernel_rfl) (by kernel_rfl) (by kernel_rfl) (by kernel_rfl) (fun _ _ _ h => h) (by rfl) ?_ (by assumption) ?_
      rotate_left
      · (intro w hSw; (try dsimp only at hSw); go_simp <;> with_reducible rfl)
      try simp only [Act.put, List.setIfInBounds_toArray, List.set_cons_zero, List.set_cons_succ]
      refine lat_take 14 (v := ?_) rfl (by kernel_rfl) (by kernel_rfl) (by kernel_rfl) (by kernel_rfl) (fun _ _ _ h => h) (by rfl) ?_ (by assumption) ?_
      rotate_left
      · (intro w hSw; (try dsimp only at hSw); go_simp <;> with_reducible rfl)
      try simp only [Act.put, List.setIfInBounds_toArray, List.set_cons_zero, List.set_cons_succ]
      refine lat_take 15 (v := ?_) rfl (by kernel_rfl) (by kernel_rfl) (by kernel_rfl) (by kernel_rfl) (fun _ _ _ h => h) (by rfl) ?_ (by assumption) ?_
      rotate_left
      · (intro w hSw; (try dsimp only at hSw); go_simp <;> with_reducible rfl)
      try simp only [Act.put, List.setIfInBounds_toArray, List.set_cons_zero, List.set_cons_succ]
      refine lat_take 16 (v := ?_) rfl (by kernel_rfl) (by kernel_rfl) (by kernel_rfl) (by kernel_rfl) (fun _ _ _ h => h) (by rfl) ?_ (by assumption) ?_
      rotate_left
      · (intro w hSw; (try dsimp only at hSw); go_simp <;> with_reducible rfl)
      try simp only [Act.put, List.setIfInBounds_toArray, List.set_cons_zero, List.set_cons_succ]
      refine lat_take 17 (v := ?_) rfl (by kernel_rfl) (by kernel_rfl) (by kernel_rfl) (by kernel_rfl) (fun _ _ _ h => h) (by rfl) ?_ (by assumption) ?_
      rotate_left
      · (intro w hSw; (try dsimp only at hSw); go_simp <;> with_reducible rfl)
      try simp only [Act.put, List.setIfInBounds_toArray, List.set_cons_zero, List.set_cons_succ]
      refine lat_take 18 (v := ?_) rfl (by kernel_rfl) (by kernel_rfl) (by kernel_rfl) (by kernel_rfl) (fun _ _ _ h => h) (by rfl) ?_ (by assumption) ?_
      rotate_left
      · (intro w hSw; (try dsimp only at hSw); go_simp <;> with_reducible rfl)
      try simp only [Act.put, List.setIfInBounds_toArray, List.set_cons_zero, List.set_cons_succ]
      refine lat_take 19 (v := ?_) rfl (by kernel_rfl) (by kernel_rfl) (by kernel_rfl) (by kernel_rfl) (fun _ _ _ h => h) (by rfl) ?_ (by assumption) ?_
      rotate_left
      · (intro w hSw; (try dsimp only at hSw); go_simp <;> with_reducible rfl)
      try simp only [Act.put, List.setIfInBounds_toArray, List.set_cons_zero, List.set_cons_succ]
      refine lat_take 20 (v := ?_) rfl (by kernel_rfl) (by kernel_rfl) (by kernel_rfl) (by kernel_rfl) (fun _ _ _ h => h) (by rfl) ?_ (by assumption) ?_
      rotate_left
      · (intro w hSw; (try dsimp only at hSw); go_simp <;> with_reducible rfl)
      try simp only [Act.put, List.setIfInBounds_toArray, List.set_cons_zero, List.set_cons_succ]
      refine lat_take 21 (v := ?_) rfl (by kernel_rfl) (by kernel_rfl) (by kernel_rfl) (by kernel_rfl) (fun _ _ _ h => h) (by rfl) ?_ (by assumption) ?_
      rotate_left
      · (intro w hSw; (try dsimp only at hSw); go_simp <;> with_reducible rfl)
      try simp only [Act.put, List.setIfInBounds_toArray, List.set_cons_zero, List.set_cons_succ]
      refine lat_take 22 (v := ?_) rfl (by kernel_rfl) (by kernel_rfl) (by kernel_rfl) (by kernel_rfl) (fun _ _ _ h => h) (by rfl) ?_ (by assumption) ?_
      rotate_left
      · (intro w hSw; (try dsimp only at hSw); go_simp <;> with_reducible rfl)
      try simp only [Act.put, List.setIfInBounds_toArray, List.set_cons_zero, List.set_cons_succ]
      refine lat_take 23 (v := ?_) rfl (by kernel_rfl) (by kernel_rfl) (by kernel_rfl) (by kernel_rfl) (fun _ _ _ h => h) (by rfl) ?_ (by assumption) ?_
      rotate_left
      · (intro w hSw; (try dsimp only at hSw); go_simp <;> with_reducible rfl)
      try simp only [Act.put, List.setIfInBounds_toArray, List.set_cons_zero, List.set_cons_succ]
      refine lat_one 24 rfl (by kernel_rfl) (by decide) (by rfl) (fun K hK => ?_)
      go_simp
      refine hK.out _ _ hcellA (fun hHeld2 => ?_)
      clear hK hHeld
      try simp only [Act.put, List.setIfInBounds_toArray, List.set_cons_zero, List.set_cons_succ]
      refine lat_one 25 rfl (by kernel_rfl) (by decide) (by rfl) (fun K hK => ?_)
      refine wp_append_run (.tmp 28) (.tmp 52) 31 rfl _ _ _ rfl rfl hap (hK.out _ _ hcell5 (fun hHeld3 => ?_))
      clear hK hHeld2
      try simp only [Act.put, List.setIfInBounds_toArray, List.set_cons_zero, List.set_cons_succ]
      refine lat_last 26 rfl (by kernel_rfl) (by decide) (by kernel_rfl) (by rfl) (fun K hK => ?_)
      go_simp
      refine hK.out _ _ ?_
      clear hK hHeld3 hap
      try simp only [Act.put, List.setIfInBounds_toArray, List.set_cons_zero, List.set_cons_succ]
      go_wp2_with fail
      exact ⟨⟨k + 1, g', cap', by omega, by go_num, rfl, .inl hown5, hb5⟩, by simp [iof]; omega⟩
    · obtain rfl : k = 7 := by omega
      clear hcl0 HT8
      have hT36 : E.take (8 + 4 * 7) = E.take 36 := rfl
      rw [hT36] at hbuf hlt8 hbt
      have hS36 : P.sum (E.take 36) = sumN (nums ⟨p1, p2, p3, p4, p5, p6, p7⟩) := by rw [← HE.out, encL_take]; rfl
      have hSl := sumN_lt (nums ⟨p1, p2, p3, p4, p5, p6, p7⟩)
      have HS : Hid _ := rsum_any (some ⟨g, 0, none⟩) cap (E.take 36) wr (hbuf.row hbt) (by rw [hlt8]; decide)
      rw [hS36, hlt8] at HS
      have d0 := encL_sum (nums ⟨p1, p2, p3, p4, p5, p6, p7⟩) 0 (by omega)
      have d1 := encL_sum (nums ⟨p1, p2, p3, p4, p5, p6, p7⟩) 1 (by omega)
      have d2 := encL_sum (nums ⟨p1, p2, p3, p4, p5, p6, p7⟩) 2 (by omega)
      have d3 := encL_sum (nums ⟨p1, p2, p3, p4, p5, p6, p7⟩) 3 (by omega)
      rw [HE.out] at d0 d1 d2 d3
      clear hS36
      generalize sumN (nums ⟨p1, p2, p3, p4, p5, p6, p7⟩) = S at *
      have x0 : IntKind.u8.wrap ((S : Nat) : Int) = ((E.getD 36 0 : Nat) : Int) := by
        rw [IntKind.wrap_u8, show (36 : Nat) = 36 + 0 from rfl, d0]; simp
      have x1 : IntKind.u8.wrap (((S : Nat) : Int) / 256) = ((E.getD 37 0 : Nat) : Int) := by
        rw [IntKind.wrap_u8, show (37 : Nat) = 36 + 1 from rfl, d1]; simp
      have x2 : IntKind.u8.wrap (((S : Nat) : Int) / 65536) = ((E.getD 38 0 : Nat) : Int) := by
        rw [IntKind.wrap_u8, show (38 : Nat) = 36 + 2 from rfl, d2]; simp
      have x3 : IntKind.u8.wrap (((S : Nat) : Int) / 16777216) = ((E.getD 39 0 : Nat) : Int) := by
        rw [IntKind.wrap_u8, show (39 : Nat) = 36 + 3 from rfl, d3]; simp
      have HT4 : Hid (E.take 36 ++ [E.getD 36 0, E.getD 37 0, E.getD 38 0, E.getD 39 0] = E.take 40) := take4 E 36 (by omega)
      clear d0 d1 d2 d3
      generalize E.getD 36 0 = d0 at *
      generalize E.getD 37 0 = d1 at *
      generalize E.getD 38 0 = d2 at *
      generalize E.getD 39 0 = d3 at *
      have hDa : Below wr.heap.size wr (wr.alloc (.cells #[.int .u8 (d0 : Int), .int .u8 (d1 : Int), .int .u8 (d2 : Int), .int .u8 (d3 : Int)] 5)) := (Below.refl _ _).alloc (Nat.le_refl _) _
      obtain ⟨g', cap', w5, hap, hown5, hb5⟩ := buf_append (w0 := W0) (hbuf.below hDa) hbt (by omega) (hbw.trans (hDa.mono hbw.size)) (Nat.le_trans hbw.size hDa.size) ⟨wr.heap.size, 0, none⟩ 4 4 (by omega) [d0, d1, d2, d3] rfl (four_cells wr [d0, d1, d2, d3]) (by omega) 31
      rw [HT4.out] at hown5
      rw [hlt8] at hap
      clear hbuf hlt8 hbt hDa hT36
      go_wp2_with (first
        | (go_at_call 28; refine Calls.mono HS.out ?_; rintro e v2 ⟨rfl, hw⟩; subst v2)
        | (at_builtin; refine Lib.wpList_append_run _ rfl _ _ _ _ rfl _ _ rfl rfl _ _ hap ?_))
      clear hap HT4 x0 x1 x2 x3 HS hbw
      go_loopw [3] (fun b wr => ∃ (n g cap : Nat), 40 ≤ n ∧ n ≤ 512 ∧ b = .slice (some ⟨g, 0, none⟩) n cap ∧ Own W0.heap.size wr g cap (E.take n) ∧ Below W0.heap.size W0 wr) (fun b _ => 512 - lenv b)
      case atStart => exact ⟨40, g', cap', by omega, by omega, rfl, hown5, hb5⟩
      case round =>
        obtain ⟨n, g, cap, hn1, hn2, rfl, hown, hbw⟩ := hrel
        by_cases hlt : n < 512
        · have hltI : (n : Int) < 512 := by omega
          have hln : (E.take n).length = n := by simp [hEl]; omega
          have hbt : ∀ i, (E.take n).getD i 0 < 256 := by
            intro i
            by_cases hi : i < n
            · rw [take_get _ _ _ hi]; exact hEb i
            · rw [getD_out _ _ (by omega)]; omega
          have HT1 : Hid (E.take n ++ [0] = E.take (n + 1)) := by
            show _ = _
            have e0 : E.getD n 0 = 0 := by rw [← HE.out]; exact encL_high _ _ hn1
            rw [← take_step E n (by omega), e0]
          have hDa : Below wr.heap.size wr (wr.alloc (.cells #[.int .u8 0] 5)) := (Below.refl _ _).alloc (Nat.le_refl _) _
          obtain ⟨g1, cap1, w6, hap, hown6, hb6⟩ := buf_append (w0 := W0) (.inl (hown.below hDa)) hbt (by omega) (hbw.trans (hDa.mono hbw.size)) (Nat.le_trans hbw.size hDa.size) ⟨wr.heap.size, 0, none⟩ 1 1 (by omega) [0] rfl (four_cells wr [0]) (by omega) 31
          rw [HT1.out] at hown6
          rw [hln] at hap
          clear hbt hDa hown hbw hln
          go_wp2_with (at_builtin; refine Lib.wpList_append_run _ rfl _ _ _ _ rfl _ _ rfl rfl _ _ hap ?_)
          exact ⟨⟨n + 1, g1, cap1, by omega, by omega, rfl, hown6, hb6⟩, by simp [lenv]; omega⟩
        · obtain rfl : n = 512 := by omega
          rw [List.take_of_length_le (by omega)] at hown
          have HO : Hid (Own w.heap.size wr g cap E) := own_le hown (by omega)
          clear hown
          go_wp2
          go_ret
          exact ⟨⟨g, cap, rfl, by rw [HE.out]; exact HO.out⟩, hbel0.trans (hbw.mono hbel0.size)⟩
end Go.Proofs.YtbiniohacnaieaaDoor
