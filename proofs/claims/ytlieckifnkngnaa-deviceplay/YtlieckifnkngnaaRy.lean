/- The document's device: Copy. -/
import Derived.Test.YtlieckifnkngnaaRc
namespace Go.Proofs.Ytlieckifnkngnaa
set_option linter.unusedSimpArgs false
set_option linter.unusedVariables false
open Go.RowKit Go.MapKept
/-- append(nil, row...), the row nil or not. -/
theorem wp_append_copy {o : Oper} {a : Act} {K : Act → World → Prop} {Q : Exit → Act → World → Prop} (w : World) (s x : Operand) (ho : o.op = .call { callee := .builtin .append, args := #[s, x], argTypes := #[61, 61] }) (B : Nat) (pv : Value) (m : Nat) (xs : List Value)
    (hs : a.eval s = .slice none 0 0) (hx : a.eval x = pv) (hown : w.ownsRow B 39 1 pv m xs) (h1 : ∀ u ∈ xs, u.oneCell' = true) (hm : m ≤ 1000000)
    (h : ∀ v' w', w'.ownsRow w.heap.size 39 1 v' m xs → w.grownBy w' none → K (a.put o.dst v') w') : o.wp Try.prog a w K Q := by
  obtain ⟨i39, hi39, hy0, hy1, hy2⟩ := info_parts rinfo39
  have hlen := hown.1
  rcases owns_shape hown with ⟨rfl, rfl⟩ | ⟨g, cap, rfl, hle⟩
  · have hrun := run_append_owned_none (P := Try.prog) (w := w) w.heap.size 61 o.type 39 i39 1 Try.underlying61 hi39 (.slice none 0 0) 0 [] (owns_nil _ _ _)
    have hxs : xs = [] := List.length_eq_zero_iff.1 (by omega)
    subst hxs
    unfold Oper.wp execOp
    simp only [ho, resolve, invoke, builtin, Sem.run_bind, Sem.run_pure, Result.andThen_ok, List.map_toArray, List.map_cons, List.map_nil, hs, hx, hrun]
    exact h _ _ (owns_nil _ _ _) ⟨rfl, rfl, rfl, Nat.le_refl _, fun _ _ _ => rfl⟩
  · refine wp_append_own w s x 61 ho w.heap.size 39 i39 (.slice none 0 0) 1 24 Try.underlying61 hi39 hy0 hy1 hy2 rfl (by decide) (.slice none 0 0) 0 [] hs (owns_nil _ _ _) ⟨g, 0, none⟩ m cap xs hx (by omega) (hown.cells rfl) h1 (by unfold maxLen; omega) (by omega) (Nat.le_refl _) ?_
    intro v' w' ho' hg' _
    exact h v' w' (by simpa using ho') ⟨hg'.os, hg'.tape, hg'.output, hg'.size, fun k hk _ => hg'.block k hk (by simp [Value.ownBlock])⟩
section
variable {B : Nat} {w w' : World} {q gB cB gP cP : Nat} {bs ps : List Value} {rs : Nat → List Value} {G : List Nat} {d : Dv} {last : Int}
structure RyAt (w : World) (d : Dv) (rs : Nat → List Value) (bs : List Value) (last : Int) (wr : World) (k : Nat) (vB vP : Value) (ps2 : List Value) : Prop where
  raw : Raw w.heap.size wr w.heap.size vB vP bs ps2 d.n k (d.ops : Int) last
  ro : ∀ j, j < k → wr.ownsRow w.heap.size 39 1 (ps2.getD j undef) (d.pend j).length (rs j)
  ap : ∀ i j, i < k → j < k → i ≠ j → ∀ b, (ps2.getD i undef).ownBlock = some b → (ps2.getD j undef).ownBlock ≠ some b
  nb : ∀ i, i < k → ∀ b, (ps2.getD i undef).ownBlock = some b → vB.ownBlock ≠ some b
  bel : Below w.heap.size w wr
theorem RyAt.step {wr w2 w4 : World} {k g cap : Nat} {vB vP v2 : Value} {ps2 : List Value} {o : Obj} (h : RyAt w d rs bs last wr k vB vP ps2) (hg2 : wr.grownBy w2 none) (ho2 : w2.ownsRow wr.heap.size 39 1 v2 (d.pend k).length (rs k))
    (ho4 : w4.ownsRow w.heap.size 61 1 (.slice (some ⟨g, 0, none⟩) (k + 1) cap) (k + 1) (ps2 ++ [v2])) (hg4 : (w2.alloc o).grownBy w4 vP.ownBlock) (hat : vP.ownBlock = some g ∨ g = w2.heap.size + 1) :
    RyAt w d rs bs last (w4.setCell ⟨w.heap.size, 1, none⟩ (.slice (some ⟨g, 0, none⟩) (k + 1) cap)) (k + 1) vB (.slice (some ⟨g, 0, none⟩) (k + 1) cap) (ps2 ++ [v2]) := by
  have hR2 : Raw w.heap.size w2 w.heap.size vB vP bs ps2 d.n k (d.ops : Int) last := h.raw.blk fun x hx => hg2.block x hx (by simp)
  have hlp : ps2.length = k := by have := h.raw.po.1; omega
  have s2 := hg2.size
  have hsz := h.bel.size
  have own : ∀ j, j < k → ∀ b, (ps2.getD j undef).ownBlock = some b → b < wr.heap.size := fun j hj b hb => by
    obtain ⟨cur, hc, _⟩ := owns_blk' (h.ro j hj) hb
    exact lt_of_blk hc
  have own2 : ∀ b, v2.ownBlock = some b → wr.heap.size ≤ b := fun b hb => by
    obtain ⟨cur, hc, hle⟩ := owns_blk' ho2 hb
    exact hle
  have t39 : ∀ (x : Nat) (cs : Array Value) (fr : Nat × Nat), w2.heap[x]? = some (Obj.cells cs 39 fr) → (w4.setCell ⟨w.heap.size, 1, none⟩ (.slice (some ⟨g, 0, none⟩) (k + 1) cap)).heap[x]? = w2.heap[x]? := fun x cs fr hx => by
    refine raw_oth hg4 x (lt_of_blk hx) (ne_of_type hx hR2.cells (by decide)) fun e => ?_
    obtain ⟨cur, hc, _⟩ := owns_blk' hR2.po e.symm
    exact ne_of_type hx hc (by decide) rfl
  have gs : ∀ i, i < k + 1 → (ps2 ++ [v2]).getD i undef = if i < k then ps2.getD i undef else v2 := fun i hi => by
    rw [getD_snoc, hlp]
    by_cases hik : i < k
    · rw [if_pos hik, if_pos hik]
    · rw [if_neg hik, if_neg hik, if_pos (by omega)]
  refine ⟨hR2.addP ho4 hg4 hat, fun j hj => ?_, fun i j hi hj hij b hb hb2 => ?_, fun i hi b hb hb2 => ?_, ?_⟩
  · rw [gs j hj]
    by_cases hjk : j < k
    · rw [if_pos hjk]
      refine owns_same' (h.ro j hjk) fun b hb => ?_
      obtain ⟨cur, hc, _⟩ := owns_blk' (h.ro j hjk) hb
      have e2 := hg2.block b (lt_of_blk hc) (by simp)
      exact (t39 b _ _ (e2.trans hc)).trans e2
    · have : j = k := by omega
      subst this
      rw [if_neg hjk]
      refine owns_same' (ho2.mono hsz) fun b hb => ?_
      obtain ⟨cur, hc, _⟩ := owns_blk' ho2 hb
      exact t39 b _ _ hc
  · rw [gs i hi] at hb
    rw [gs j hj] at hb2
    by_cases hik : i < k
    · rw [if_pos hik] at hb
      by_cases hjk : j < k
      · rw [if_pos hjk] at hb2
        exact h.ap i j hik hjk hij b hb hb2
      · rw [if_neg hjk] at hb2
        have := own i hik b hb; have := own2 b hb2; omega
    · rw [if_neg hik] at hb
      rw [if_pos (by omega)] at hb2
      have := own j (by omega) b hb2; have := own2 b hb; omega
  · rw [gs i hi] at hb
    by_cases hik : i < k
    · rw [if_pos hik] at hb; exact h.nb i hik b hb hb2
    · rw [if_neg hik] at hb
      obtain ⟨cur, hc, _⟩ := owns_blk' h.raw.bo hb2
      have := lt_of_blk hc; have := own2 b hb; omega
  · have b1 : Below w.heap.size wr w2 := ⟨hg2.os, hg2.tape, hg2.output, hg2.size, fun x hx => hg2.block x (by omega) (by simp)⟩
    exact (h.bel.trans b1).trans (raw_below hg4 (by omega) (Nat.le_refl _) fun x hx => (owns_blk' hR2.po hx).elim fun _ y => y.2)
theorem RyAt.done {wr : World} {vB vP : Value} {ps2 : List Value} (h : RefAt B w q gB cB gP cP bs ps rs G d last) (hBs : B ≤ w.heap.size) (hA : RyAt w d rs bs last wr d.n vB vP ps2) :
    ∃ gB' cB' gP' cP' G', RefAt B wr w.heap.size gB' cB' gP' cP' bs ps2 rs G' d last ∧ ∀ x ∈ G', x ∈ G ∨ w.heap.size ≤ x := by
  have hn1 := h.ok.n1
  have h1 := h.below hA.bel
  obtain ⟨gB', cB', rfl, _⟩ : ∃ g c, vB = .slice (some ⟨g, 0, none⟩) d.n c ∧ True := by
    rcases owns_shape hA.raw.bo with ⟨_, h0⟩ | ⟨g, c, e, _⟩
    · omega
    · exact ⟨g, c, e, trivial⟩
  obtain ⟨gP', cP', rfl, _⟩ : ∃ g c, vP = .slice (some ⟨g, 0, none⟩) d.n c ∧ True := by
    rcases owns_shape hA.raw.po with ⟨_, h0⟩ | ⟨g, c, e, _⟩
    · omega
    · exact ⟨g, c, e, trivial⟩
  obtain ⟨c1, hc1, l1⟩ := owns_blk' (b := gB') hA.raw.bo rfl
  obtain ⟨c2, hc2, l2⟩ := owns_blk' (b := gP') hA.raw.po rfl
  have hin : ∀ x, w.heap.size ≤ x → x < wr.heap.size → x ∈ G ++ List.range' w.heap.size (wr.heap.size - w.heap.size) := fun x h1 h2 => by
    simp [List.mem_range']; exact .inr ⟨x - w.heap.size, by omega, by omega⟩
  refine ⟨gB', cB', gP', cP', G ++ List.range' w.heap.size (wr.heap.size - w.heap.size), ⟨hA.raw.cells, hA.raw.bo.mono hBs, hA.raw.po.mono hBs, fun k hk => (hA.ro k hk).mono hBs, fun k hk => (h1.by' k hk).blk (fun _ _ _ _ _ => rfl) (fun x hx => by simp [hx]), fun k j hk hj => (h1.pby k j hk hj).blk (fun _ _ _ _ _ => rfl) (fun x hx => by simp [hx]), hA.ap, fun i hi hb => hA.nb i hi gB' hb rfl, ⟨hin _ (Nat.le_refl _) hA.raw.lt, hin _ l1 (lt_of_blk hc1), hin _ l2 (lt_of_blk hc2), fun i hi b hb => ?_⟩, fun x hx => ?_, h.ok, h.lk⟩, fun x hx => ?_⟩
  · obtain ⟨cur, hc, hle⟩ := owns_blk' (hA.ro i hi) hb
    exact hin b hle (lt_of_blk hc)
  · rcases List.mem_append.1 hx with a | a
    · exact h1.glt x a
    · simp [List.mem_range'] at a
      obtain ⟨y, hy, rfl⟩ := a
      exact ⟨by omega, by omega⟩
  · rcases List.mem_append.1 hx with a | a
    · exact .inl a
    · simp [List.mem_range'] at a
      obtain ⟨y, hy, rfl⟩ := a
      exact .inr (by omega)
theorem byt_one {G : List Nat} {v : Value} {c : List Nat} (h : Byt w G v c) : v.oneCell' = true := by
  obtain ⟨b, cap, cs, fr, rfl, _⟩ := h
  rfl
theorem RefAt.bone (h : RefAt B w q gB cB gP cP bs ps rs G d last) : ∀ u ∈ bs, u.oneCell' = true := fun u hu => by
  obtain ⟨i, hi, e⟩ := List.getElem_of_mem hu
  have hl : bs.length = d.n := by have := h.bo.1; omega
  have := byt_one (h.by' i (by omega))
  rwa [show bs.getD i undef = u by simp [List.getD, hi, e]] at this
theorem RefAt.rone (h : RefAt B w q gB cB gP cP bs ps rs G d last) (k : Nat) (hk : k < d.n) : ∀ u ∈ rs k, u.oneCell' = true := fun u hu => by
  obtain ⟨i, hi, e⟩ := List.getElem_of_mem hu
  have hl : (rs k).length = (d.pend k).length := by have := (h.ro k hk).1; omega
  have := byt_one (h.pby k i hk (by omega))
  rwa [show (rs k).getD i undef = u by simp [List.getD, hi, e]] at this
set_option maxRecDepth 100000 in
set_option maxHeartbeats 4000000 in
theorem refCopy_any (h : RefAt B w q gB cB gP cP bs ps rs G d last) (hBs : B ≤ w.heap.size) :
    Calls Try.prog 33 #[.pointer (some ⟨q, 0, none⟩)] w fun e w' => ∃ q' gB' cB' gP' cP' bs' ps' rs' G', e = .returned (.pointer (some ⟨q', 0, none⟩)) ∧ RefAt B w' q' gB' cB' gP' cP' bs' ps' rs' G' d last ∧ (∀ x ∈ G', x ∈ G ∨ w.heap.size ≤ x) ∧ Below w.heap.size w w' := by
  obtain ⟨c0, c1, c2, c3⟩ := h.c
  have hn1 := h.ok.n1
  have hn2 := h.ok.n2
  obtain ⟨i61, hi61, hx0, hx1, hx2⟩ := info_parts rinfo61
  go_enter Try.func33, Try.ntmps33
  go_wp2
  refine wp_region_lat (fun x => x.cell? ⟨q, 2, none⟩ = some (.int .i64 (d.ops : Int)) ∧ x.cell? ⟨q, 3, none⟩ = some (.int .i64 last)) 10 (by kernel_rfl) ⟨c2, c3⟩ (fun hHeld => ?_)
  refine lat_take 0 (v := ?_) rfl (by kernel_rfl) (by kernel_rfl) (by kernel_rfl) (by kernel_rfl) (fun _ _ _ h => h) (by rfl) ?_ (by assumption) ?_
  rotate_left
  · (intro w hSw; (try dsimp only at hSw); go_simp <;> with_reducible rfl)
  try simp only [Act.put, List.setIfInBounds_toArray, List.set_cons_zero, List.set_cons_succ]
  refine lat_take 1 (v := ?_) rfl (by kernel_rfl) (by kernel_rfl) (by kernel_rfl) (by kernel_rfl) (fun _ _ _ h => h) (by rfl) ?_ (by assumption) ?_
  rotate_left
  · (intro w hSw; (try dsimp only at hSw); go_simp <;> with_reducible rfl)
  try simp only [Act.put, List.setIfInBounds_toArray, List.set_cons_zero, List.set_cons_succ]
  refine lat_take 2 (v := ?_) rfl (by kernel_rfl) (by kernel_rfl) (by kernel_rfl) (by kernel_rfl) (fun _ _ _ h => h) (by rfl) ?_ (by assumption) ?_
  rotate_left
  · (intro w hSw; (try dsimp only at hSw); go_simp <;> with_reducible rfl)
  try simp only [Act.put, List.setIfInBounds_toArray, List.set_cons_zero, List.set_cons_succ]
  refine lat_take 3 (v := ?_) rfl (by kernel_rfl) (by kernel_rfl) (by kernel_rfl) (by kernel_rfl) (fun _ _ _ h => h) (by rfl) ?_ (by assumption) ?_
  rotate_left
  · (intro w hSw; (try dsimp only at hSw); go_simp <;> with_reducible rfl)
  try simp only [Act.put, List.setIfInBounds_toArray, List.set_cons_zero, List.set_cons_succ]
  refine lat_take 4 (v := ?_) rfl (by kernel_rfl) (by kernel_rfl) (by kernel_rfl) (by kernel_rfl) (fun _ _ _ h => h) (by rfl) ?_ (by assumption) ?_
  rotate_left
  · (intro w hSw; (try dsimp only at hSw); go_simp <;> with_reducible rfl)
  try simp only [Act.put, List.setIfInBounds_toArray, List.set_cons_zero, List.set_cons_succ]
  refine lat_take 5 (v := ?_) rfl (by kernel_rfl) (by kernel_rfl) (by kernel_rfl) (by kernel_rfl) (fun _ _ _ h => h) (by rfl) ?_ (by assumption) ?_
  rotate_left
  · (intro w hSw; (try dsimp only at hSw); go_simp <;> with_reducible rfl)
  try simp only [Act.put, List.setIfInBounds_toArray, List.set_cons_zero, List.set_cons_succ]
  refine lat_take 6 (v := ?_) rfl (by kernel_rfl) (by kernel_rfl) (by kernel_rfl) (by kernel_rfl) (fun _ _ _ h => h) (by rfl) ?_ (by assumption) ?_
  rotate_left
  · (intro w hSw; (try dsimp only at hSw); go_simp <;> with_reducible rfl)
  try simp only [Act.put, List.setIfInBounds_toArray, List.set_cons_zero, List.set_cons_succ]
  refine lat_take 7 (v := ?_) rfl (by kernel_rfl) (by kernel_rfl) (by kernel_rfl) (by kernel_rfl) (fun _ _ _ h => h) (by rfl) ?_ (by assumption) ?_
  rotate_left
  · (intro w hSw; (try dsimp only at hSw); go_simp <;> with_reducible rfl)
  try simp only [Act.put, List.setIfInBounds_toArray, List.set_cons_zero, List.set_cons_succ]
  refine lat_take 8 (v := ?_) rfl (by kernel_rfl) (by kernel_rfl) (by kernel_rfl) (by kernel_rfl) (fun _ _ _ h => h) (by rfl) ?_ (by assumption) ?_
  rotate_left
  · (intro w hSw; (try dsimp only at hSw); go_simp <;> with_reducible rfl)
  try simp only [Act.put, List.setIfInBounds_toArray, List.set_cons_zero, List.set_cons_succ]
  refine lat_one 9 rfl (by kernel_rfl) (by decide) (by rfl) (fun K hK => ?_)
  go_simp
  have h1 : RefAt B (w.alloc (.cells #[.slice none 0 0, .slice none 0 0, .int .i64 (d.ops : Int), .int .i64 last] 64)).drew q gB cB gP cP bs ps rs G d last := h.below (((Below.refl _ _).alloc (Nat.le_refl _) _).drew)
  have hR1 : Raw w.heap.size (w.alloc (.cells #[.slice none 0 0, .slice none 0 0, .int .i64 (d.ops : Int), .int .i64 last] 64)).drew w.heap.size (.slice none 0 0) (.slice none 0 0) [] [] 0 0 (d.ops : Int) last := ⟨heap_alloc_new w _, owns_nil _ _ _, owns_nil _ _ _, Nat.le_refl _⟩
  have hbel1 : Below w.heap.size w (w.alloc (.cells #[.slice none 0 0, .slice none 0 0, .int .i64 (d.ops : Int), .int .i64 last] 64)).drew := ((Below.refl _ _).alloc (Nat.le_refl _) _).drew
  obtain ⟨W1, HW1⟩ : ∃ W1, Hid ((w.alloc (.cells #[.slice none 0 0, .slice none 0 0, .int .i64 (d.ops : Int), .int .i64 last] 64)).drew = W1) := ⟨_, rfl⟩
  rw [HW1.out] at h1 hR1 hbel1 ⊢
  clear HW1 c0 c1 c2 c3
  refine hK.out _ _ ⟨h1.c.2.2.1, h1.c.2.2.2⟩ (fun hHeld2 => ?_)
  clear hK hHeld
  try simp only [Act.put, List.setIfInBounds_toArray, List.set_cons_zero, List.set_cons_succ]
  refine lat_last 10 rfl (by kernel_rfl) (by decide) (by kernel_rfl) (by rfl) (fun K hK => ?_)
  go_simp
  refine hK.out _ _ ?_
  clear hK hHeld2
  obtain ⟨c0, c1, c2, c3⟩ := h1.c
  have hq0 := hR1.c.1
  have hlt1 := hR1.lt
  have hsz1 := hbel1.size
  go_wp2
  refine wp_region_lat (fun x => x.cell? ⟨w.heap.size, 0, none⟩ = some (.slice none 0 0) ∧ x.cell? ⟨q, 0, none⟩ = some (.slice (some ⟨gB, 0, none⟩) d.n cB)) 12 (by kernel_rfl) ⟨hq0, c0⟩ (fun hHeld => ?_)
  refine lat_take 0 (v := ?_) rfl (by kernel_rfl) (by kernel_rfl) (by kernel_rfl) (by kernel_rfl) (fun _ _ _ h => h) (by rfl) ?_ (by assumption) ?_
  rotate_left
  · (intro w hSw; (try dsimp only at hSw); go_simp <;> with_reducible rfl)
  try simp only [Act.put, List.setIfInBounds_toArray, List.set_cons_zero, List.set_cons_succ]
  refine lat_take 1 (v := ?_) rfl (by kernel_rfl) (by kernel_rfl) (by kernel_rfl) (by kernel_rfl) (fun _ _ _ h => h) (by rfl) ?_ (by assumption) ?_
  rotate_left
  · (intro w hSw; (try dsimp only at hSw); go_simp <;> with_reducible rfl)
  try simp only [Act.put, List.setIfInBounds_toArray, List.set_cons_zero, List.set_cons_succ]
  refine lat_take 2 (v := ?_) rfl (by kernel_rfl) (by kernel_rfl) (by kernel_rfl) (by kernel_rfl) (fun _ _ _ h => h) (by rfl) ?_ (by assumption) ?_
  rotate_left
  · (intro w hSw; (try dsimp only at hSw); go_simp <;> with_reducible rfl)
  try simp only [Act.put, List.setIfInBounds_toArray, List.set_cons_zero, List.set_cons_succ]
  refine lat_take 3 (v := ?_) rfl (by kernel_rfl) (by kernel_rfl) (by kernel_rfl) (by kernel_rfl) (fun _ _ _ h => h) (by rfl) ?_ (by assumption) ?_
  rotate_left
  · (intro w hSw; (try dsimp only at hSw); go_simp <;> with_reducible rfl)
  try simp only [Act.put, List.setIfInBounds_toArray, List.set_cons_zero, List.set_cons_succ]
  refine lat_take 4 (v := ?_) rfl (by kernel_rfl) (by kernel_rfl) (by kernel_rfl) (by kernel_rfl) (fun _ _ _ h => h) (by rfl) ?_ (by assumption) ?_
  rotate_left
  · (intro w hSw; (try dsimp only at hSw); go_simp <;> with_reducible rfl)
  try simp only [Act.put, List.setIfInBounds_toArray, List.set_cons_zero, List.set_cons_succ]
  refine lat_take 5 (v := ?_) rfl (by kernel_rfl) (by kernel_rfl) (by kernel_rfl) (by kernel_rfl) (fun _ _ _ h => h) (by rfl) ?_ (by assumption) ?_
  rotate_left
  · (intro w hSw; (try dsimp only at hSw); go_simp <;> with_reducible rfl)
  try simp only [Act.put, List.setIfInBounds_toArray, List.set_cons_zero, List.set_cons_succ]
  refine lat_take 6 (v := ?_) rfl (by kernel_rfl) (by kernel_rfl) (by kernel_rfl) (by kernel_rfl) (fun _ _ _ h => h) (by rfl) ?_ (by assumption) ?_
  rotate_left
  · (intro w hSw; (try dsimp only at hSw); go_simp <;> with_reducible rfl)
  try simp only [Act.put, List.setIfInBounds_toArray, List.set_cons_zero, List.set_cons_succ]
  refine lat_take 7 (v := ?_) rfl (by kernel_rfl) (by kernel_rfl) (by kernel_rfl) (by kernel_rfl) (fun _ _ _ h => h) (by rfl) ?_ (by assumption) ?_
  rotate_left
  · (intro w hSw; (try dsimp only at hSw); go_simp <;> with_reducible rfl)
  try simp only [Act.put, List.setIfInBounds_toArray, List.set_cons_zero, List.set_cons_succ]
  refine lat_take 8 (v := ?_) rfl (by kernel_rfl) (by kernel_rfl) (by kernel_rfl) (by kernel_rfl) (fun _ _ _ h => h) (by rfl) ?_ (by assumption) ?_
  rotate_left
  · (intro w hSw; (try dsimp only at hSw); go_simp <;> with_reducible rfl)
  try simp only [Act.put, List.setIfInBounds_toArray, List.set_cons_zero, List.set_cons_succ]
  refine lat_one 9 rfl (by kernel_rfl) (by decide) (by rfl) (fun K hK => ?_)
  refine wp_append_copy W1.drew _ _ (by rfl) B (.slice (some ⟨gB, 0, none⟩) d.n cB) d.n bs (by rfl) (by rfl) h1.bo.drew h1.bone (by omega) ?_
  intro v2 w2 ho2 hg2
  have z2 : W1.heap.size ≤ w2.heap.size := hg2.size
  have B2 : ∀ x, x < W1.heap.size → w2.heap[x]? = W1.heap[x]? := fun x hx => hg2.block x hx (by simp)
  obtain ⟨g2, k2, rfl, _⟩ : ∃ g c, v2 = .slice (some ⟨g, 0, none⟩) d.n c ∧ True := by
    rcases owns_shape ho2 with ⟨_, h0⟩ | ⟨g, c, e, _⟩
    · omega
    · exact ⟨g, c, e, trivial⟩
  have hq1 : q < W1.heap.size := (h1.glt q h1.gin.1).2
  refine hK.out _ _ ⟨(cell_blk (B2 _ hlt1)).trans hHeld.1, (cell_blk (B2 _ hq1)).trans hHeld.2⟩ (fun hHeld2 => ?_)
  clear hK hHeld
  try simp only [Act.put, List.setIfInBounds_toArray, List.set_cons_zero, List.set_cons_succ]
  refine lat_take 10 (v := ?_) rfl (by kernel_rfl) (by kernel_rfl) (by kernel_rfl) (by kernel_rfl) (fun _ _ _ h => h) (by rfl) ?_ (by assumption) ?_
  rotate_left
  · (intro w hSw; (try dsimp only at hSw); go_simp <;> with_reducible rfl)
  try simp only [Act.put, List.setIfInBounds_toArray, List.set_cons_zero, List.set_cons_succ]
  refine lat_take 11 (v := ?_) rfl (by kernel_rfl) (by kernel_rfl) (by kernel_rfl) (by kernel_rfl) (fun _ _ _ h => h) (by rfl) ?_ (by assumption) ?_
  rotate_left
  · (intro w hSw; (try dsimp only at hSw); go_simp <;> with_reducible rfl)
  try simp only [Act.put, List.setIfInBounds_toArray, List.set_cons_zero, List.set_cons_succ]
  refine lat_last 12 rfl (by kernel_rfl) (by decide) (by kernel_rfl) (by rfl) (fun K hK => ?_)
  have hf2 : w2.frozen? ⟨w.heap.size, 0, none⟩ = false := frozen_of_row _ _ _ _ _ ((B2 _ hlt1).trans hR1.cells)
  obtain ⟨hH1, hH2⟩ := hHeld2
  go_simp
  refine hK.out _ _ ?_
  clear hK
  have hRy : RyAt w d rs bs last (w2.setCell ⟨w.heap.size, 0, none⟩ (.slice (some ⟨g2, 0, none⟩) d.n k2)) 0 (.slice (some ⟨g2, 0, none⟩) d.n k2) (.slice none 0 0) [] := by
    have hg2l : W1.heap.size ≤ g2 := (owns_blk' (b := g2) ho2 rfl).elim fun _ y => y.2
    refine ⟨⟨?_, ownsRow_setCell_other (ho2.mono hsz1) (by intro e; have := Option.some.inj e; simp at this; omega) _, owns_nil _ _ _, Nat.le_refl _⟩, fun j hj => by omega, fun i j hi => by omega, fun i hi => by omega, ?_⟩
    · rw [heap_setCell_same _ _ _ _ _ _ ((B2 _ hlt1).trans hR1.cells)]; rfl
    · exact hbel1.trans ⟨hg2.os, hg2.tape, hg2.output, by simp [World.setCell]; omega, fun x hx => (heap_setCell_other w2 ⟨w.heap.size, 0, none⟩ x _ (by show x ≠ w.heap.size; omega)).trans (B2 x (by omega))⟩
  obtain ⟨W2, HW2⟩ : ∃ W2, Hid (w2.setCell ⟨w.heap.size, 0, none⟩ (.slice (some ⟨g2, 0, none⟩) d.n k2) = W2) := ⟨_, rfl⟩
  rw [HW2.out] at hRy ⊢
  clear h1 hR1 hbel1 ho2 hg2 B2 hH1 hH2 c0 c1 c2 c3 hq0
  go_wp2
  go_loopw [4] (fun i wr => ∃ (k : Nat) (vB vP : Value) (ps2 : List Value), k ≤ d.n ∧ i = .int .i64 (k : Int) ∧ RyAt w d rs bs last wr k vB vP ps2) (fun i _ => d.n - (iof i).toNat)
  case atStart => exact ⟨0, _, _, _, by omega, rfl, hRy⟩
  case round =>
    clear hRy
    obtain ⟨k, vB, vP, ps2, hk, rfl, hA⟩ := hrel
    have hsz := hA.bel.size
    have h1 := h.below hA.bel
    have c1 : wr.cell? ⟨q, 1, none⟩ = some (.slice (some ⟨gP, 0, none⟩) d.n cP) := h1.c.2.1
    by_cases hkn : k < d.n
    · have hkI : (k : Int) < (d.n : Int) := by omega
      have hR := hA.raw
      have hc1 := hR.c.2.1
      have hp := h1.pcell k hkn
      have hro := h1.ro k hkn
      obtain ⟨pv, HPV⟩ : ∃ pv, Hid (ps.getD k undef = pv) := ⟨_, rfl⟩
      rw [HPV.out] at hp hro
      have hcnt : (d.pend k).length ≤ 1000000 := by have := h.ok.count k; have := h.ok.ops; omega
      have hqw : q < wr.heap.size := (h1.glt q h1.gin.1).2
      have hpw : gP < wr.heap.size := (h1.glt gP h1.gin.2.2.1).2
      have hql : q < w.heap.size := (h.glt q h.gin.1).2
      have hpl : gP < w.heap.size := (h.glt gP h.gin.2.2.1).2
      have vPge : ∀ x, vP.ownBlock = some x → w.heap.size ≤ x := fun x hx => (owns_blk' hR.po hx).elim fun _ y => y.2
      have hone := h1.rone k hkn
      go_wp2
      refine wp_region_lat (fun x => x.cell? ⟨w.heap.size, 1, none⟩ = some vP ∧ x.cell? ⟨q, 1, none⟩ = some (.slice (some ⟨gP, 0, none⟩) d.n cP) ∧ x.cell? ⟨gP, k, none⟩ = some pv) 18 (by kernel_rfl) ⟨hc1, c1, hp⟩ (fun hHeld => ?_)
      refine lat_take 0 (v := ?_) rfl (by kernel_rfl) (by kernel_rfl) (by kernel_rfl) (by kernel_rfl) (fun _ _ _ h => h) (by rfl) ?_ (by assumption) ?_
      rotate_left
      · (intro w hSw; (try dsimp only at hSw); go_simp <;> with_reducible rfl)
      try simp only [Act.put, List.setIfInBounds_toArray, List.set_cons_zero, List.set_cons_succ]
      refine lat_take 1 (v := ?_) rfl (by kernel_rfl) (by kernel_rfl) (by kernel_rfl) (by kernel_rfl) (fun _ _ _ h => h) (by rfl) ?_ (by assumption) ?_
      rotate_left
      · (intro w hSw; (try dsimp only at hSw); go_simp <;> with_reducible rfl)
      try simp only [Act.put, List.setIfInBounds_toArray, List.set_cons_zero, List.set_cons_succ]
      refine lat_take 2 (v := ?_) rfl (by kernel_rfl) (by kernel_rfl) (by kernel_rfl) (by kernel_rfl) (fun _ _ _ h => h) (by rfl) ?_ (by assumption) ?_
      rotate_left
      · (intro w hSw; (try dsimp only at hSw); go_simp <;> with_reducible rfl)
      try simp only [Act.put, List.setIfInBounds_toArray, List.set_cons_zero, List.set_cons_succ]
      refine lat_take 3 (v := ?_) rfl (by kernel_rfl) (by kernel_rfl) (by kernel_rfl) (by kernel_rfl) (fun _ _ _ h => h) (by rfl) ?_ (by assumption) ?_
      rotate_left
      · (intro w hSw; (try dsimp only at hSw); go_simp <;> with_reducible rfl)
      try simp only [Act.put, List.setIfInBounds_toArray, List.set_cons_zero, List.set_cons_succ]
      refine lat_take 4 (v := ?_) rfl (by kernel_rfl) (by kernel_rfl) (by kernel_rfl) (by kernel_rfl) (fun _ _ _ h => h) (by rfl) ?_ (by assumption) ?_
      rotate_left
      · (intro w hSw; (try dsimp only at hSw); go_simp <;> with_reducible rfl)
      try simp only [Act.put, List.setIfInBounds_toArray, List.set_cons_zero, List.set_cons_succ]
      refine lat_take 5 (v := ?_) rfl (by kernel_rfl) (by kernel_rfl) (by kernel_rfl) (by kernel_rfl) (fun _ _ _ h => h) (by rfl) ?_ (by assumption) ?_
      rotate_left
      · (intro w hSw; (try dsimp only at hSw); go_simp <;> with_reducible rfl)
      try simp only [Act.put, List.setIfInBounds_toArray, List.set_cons_zero, List.set_cons_succ]
      refine lat_take 6 (v := ?_) rfl (by kernel_rfl) (by kernel_rfl) (by kernel_rfl) (by kernel_rfl) (fun _ _ _ h => h) (by rfl) ?_ (by assumption) ?_
      rotate_left
      · (intro w hSw; (try dsimp only at hSw); go_simp <;> with_reducible rfl)
      try simp only [Act.put, List.setIfInBounds_toArray, List.set_cons_zero, List.set_cons_succ]
      refine lat_take 7 (v := ?_) rfl (by kernel_rfl) (by kernel_rfl) (by kernel_rfl) (by kernel_rfl) (fun _ _ _ h => h) (by rfl) ?_ (by assumption) ?_
      rotate_left
      · (intro w hSw; (try dsimp only at hSw); go_simp <;> with_reducible rfl)
      try simp only [Act.put, List.setIfInBounds_toArray, List.set_cons_zero, List.set_cons_succ]
      refine lat_take 8 (v := ?_) rfl (by kernel_rfl) (by kernel_rfl) (by kernel_rfl) (by kernel_rfl) (fun _ _ _ h => h) (by rfl) ?_ (by assumption) ?_
      rotate_left
      · (intro w hSw; (try dsimp only at hSw); go_simp <;> with_reducible rfl)
      try simp only [Act.put, List.setIfInBounds_toArray, List.set_cons_zero, List.set_cons_succ]
      refine lat_take 9 (v := ?_) rfl (by kernel_rfl) (by kernel_rfl) (by kernel_rfl) (by kernel_rfl) (fun _ _ _ h => h) (by rfl) ?_ (by assumption) ?_
      rotate_left
      · (intro w hSw; (try dsimp only at hSw); go_simp <;> with_reducible rfl)
      try simp only [Act.put, List.setIfInBounds_toArray, List.set_cons_zero, List.set_cons_succ]
      refine lat_take 10 (v := ?_) rfl (by kernel_rfl) (by kernel_rfl) (by kernel_rfl) (by kernel_rfl) (fun _ _ _ h => h) (by rfl) ?_ (by assumption) ?_
      rotate_left
      · (intro w hSw; (try dsimp only at hSw); go_simp <;> with_reducible rfl)
      try simp only [Act.put, List.setIfInBounds_toArray, List.set_cons_zero, List.set_cons_succ]
      refine lat_take 11 (v := ?_) rfl (by kernel_rfl) (by kernel_rfl) (by kernel_rfl) (by kernel_rfl) (fun _ _ _ h => h) (by rfl) ?_ (by assumption) ?_
      rotate_left
      · (intro w hSw; (try dsimp only at hSw); go_simp <;> with_reducible rfl)
      try simp only [Act.put, List.setIfInBounds_toArray, List.set_cons_zero, List.set_cons_succ]
      refine lat_take 12 (v := ?_) rfl (by kernel_rfl) (by kernel_rfl) (by kernel_rfl) (by kernel_rfl) (fun _ _ _ h => h) (by rfl) ?_ (by assumption) ?_
      rotate_left
      · (intro w hSw; (try dsimp only at hSw); go_simp <;> with_reducible rfl)
      try simp only [Act.put, List.setIfInBounds_toArray, List.set_cons_zero, List.set_cons_succ]
      refine lat_one 13 rfl (by kernel_rfl) (by decide) (by rfl) (fun K hK => ?_)
      refine wp_append_copy wr.drew _ _ (by rfl) B pv (d.pend k).length (rs k) (by rfl) (by rfl) hro.drew hone hcnt ?_
      intro v3 w3 ho3 hg3
      have z3 : wr.heap.size ≤ w3.heap.size := hg3.size
      have B3 : ∀ x, x < wr.heap.size → w3.heap[x]? = wr.heap[x]? := fun x hx => hg3.block x hx (by simp)
      obtain ⟨ao, n3, k3, rfl⟩ : ∃ ao n c, v3 = .slice ao n c := by
        rcases owns_shape ho3 with ⟨e, _⟩ | ⟨g, c, e, _⟩ <;> exact ⟨_, _, _, e⟩
      have hR3 : Raw w.heap.size w3 w.heap.size vB vP bs ps2 d.n k (d.ops : Int) last := hR.blk B3
      have hlt3 := hR3.lt
      refine hK.out _ _ ⟨(cell_blk (B3 _ hR.lt)).trans hHeld.1, (cell_blk (B3 _ hqw)).trans hHeld.2.1, (cell_blk (B3 _ hpw)).trans hHeld.2.2⟩ (fun hHeld3 => ?_)
      clear hK hHeld
      try simp only [Act.put, List.setIfInBounds_toArray, List.set_cons_zero, List.set_cons_succ]
      refine lat_one 14 rfl (by kernel_rfl) (by decide) (by rfl) (fun K hK => ?_)
      go_simp
      refine hK.out _ _ ⟨(World.cell?_of_block (w := w3) (heap_alloc_lt hlt3)).trans hHeld3.1, (World.cell?_of_block (w := w3) (heap_alloc_lt (by show q < _; omega))).trans hHeld3.2.1, (World.cell?_of_block (w := w3) (heap_alloc_lt (by show gP < _; omega))).trans hHeld3.2.2⟩ (fun hHeld4 => ?_)
      clear hK hHeld3
      try simp only [Act.put, List.setIfInBounds_toArray, List.set_cons_zero, List.set_cons_succ]
      refine lat_one 15 rfl (by kernel_rfl) (by decide) (by rfl) (fun K hK => ?_)
      refine wp_append_lies (w3.alloc _) _ _ 62 (by rfl) w.heap.size 61 i61 (.slice none 0 0) 1 24 Try.underlying62 hi61 hx0 hx1 hx2 rfl (by decide) vP k ps2 (by rfl) (hR3.po.alloc _) ⟨w3.heap.size, 0, none⟩ 1 1 [.slice ao n3 k3] (by rfl) (by rfl) (fun j u hj => new_cell hj) (by simp [Value.oneCell']) (by decide) (by unfold maxLen; omega) (by omega) (by rw [size_alloc]; omega) (w3.heap.size + 1) (size_alloc _ _) ?_
      intro g5 cap5 w5 ho5 hg5 hat5 hlt5
      have e5 : ∀ x, x < wr.heap.size → some x ≠ vP.ownBlock → w5.heap[x]? = wr.heap[x]? := fun x hx hn => (hg5.block x (by rw [size_alloc]; omega) hn).trans ((heap_alloc_lt (by omega)).trans (B3 x hx))
      have nq : some q ≠ vP.ownBlock := fun e => by have := vPge q e.symm; omega
      have np : some gP ≠ vP.ownBlock := fun e => by have := vPge gP e.symm; omega
      refine hK.out _ _ ⟨(cell_blk (e5 _ hR.lt hR.sep.2.1)).trans hc1, (cell_blk (e5 q hqw nq)).trans c1, (cell_blk (e5 gP hpw np)).trans hp⟩ (fun hHeld5 => ?_)
      clear hK hHeld4
      try simp only [Act.put, List.setIfInBounds_toArray, List.set_cons_zero, List.set_cons_succ]
      refine lat_take 16 (v := ?_) rfl (by kernel_rfl) (by kernel_rfl) (by kernel_rfl) (by kernel_rfl) (fun _ _ _ h => h) (by rfl) ?_ (by assumption) ?_
      rotate_left
      · (intro w hSw; (try dsimp only at hSw); go_simp <;> with_reducible rfl)
      try simp only [Act.put, List.setIfInBounds_toArray, List.set_cons_zero, List.set_cons_succ]
      refine lat_take 17 (v := ?_) rfl (by kernel_rfl) (by kernel_rfl) (by kernel_rfl) (by kernel_rfl) (fun _ _ _ h => h) (by rfl) ?_ (by assumption) ?_
      rotate_left
      · (intro w hSw; (try dsimp only at hSw); go_simp <;> with_reducible rfl)
      try simp only [Act.put, List.setIfInBounds_toArray, List.set_cons_zero, List.set_cons_succ]
      refine lat_last 18 rfl (by kernel_rfl) (by decide) (by kernel_rfl) (by rfl) (fun K hK => ?_)
      have hf5 : w5.frozen? ⟨w.heap.size, 1, none⟩ = false := frozen_of_row _ _ _ _ _ ((e5 _ hR.lt hR.sep.2.1).trans hR.cells)
      obtain ⟨hH1, hH2, hH3⟩ := hHeld5
      go_simp
      refine hK.out _ _ ?_
      clear hK
      have hfin := hA.step (o := .cells #[.slice ao n3 k3] 61) ⟨hg3.os, hg3.tape, hg3.output, hg3.size, hg3.block⟩ ho3 ho5 hg5 hat5
      clear hA hR hR3 h1 hH1 hH2 hH3 ho3 ho5 hg5 hg3 e5 B3
      go_wp2
      exact ⟨⟨k + 1, _, _, _, by omega, by go_num, hfin⟩, by simp [iof]; omega⟩
    · obtain rfl : k = d.n := by omega
      obtain ⟨gB', cB', gP', cP', G', hRef, hG'⟩ := RyAt.done h hBs hA
      have hbel := hA.bel
      clear hA
      go_wp2
      go_ret
      exact ⟨_, gB', cB', gP', cP', _, _, _, G', rfl, hRef, hG', hbel⟩
end
end Go.Proofs.Ytlieckifnkngnaa
