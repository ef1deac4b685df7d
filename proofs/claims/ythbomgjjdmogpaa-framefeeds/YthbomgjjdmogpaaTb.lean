/- takeBody (printed by tools/mk19b.py). -/
import Derived.Test.YthbomgjjdmogpaaTh
import Derived.Test.YthbomgjjdmogpaaLat
namespace Go.Proofs.Ythbomgjjdmogpaa
set_option linter.unusedSimpArgs false
set_option linter.unusedVariables false
open Go.RowKit
theorem eql_nil (w : World) (a : Option Addr) (n c : Nat) : (binOp .eql 23 (.slice a n c) (.slice none 0 0)).run Try.prog w = .ok (.bool a.isNone) w := by
  have h : ∀ d : Nat, (Op.equalIn (d + 1) 23 (.slice a n c) (.slice none 0 0)).run Try.prog w = .ok a.isNone w := fun d => by
    cases a <;> simp [Op.equalIn, run_underlying Try.underlying23]
  simp only [binOp]
  simp [Op.equal, Op.maxDepth, h 9999]
theorem row_take {w : World} {a : Option Addr} {l : List Nat} (h : Row w a l) (n : Nat) : Row w a (l.take n) := by
  have : Row w a (l.take n ++ l.drop n) := by rw [List.take_append_drop]; exact h
  exact row_front this
/-- append within the capacity, as one step. -/
theorem wp_append_fits {w : World} {o : Oper} {a : Act} {K : Act → World → Prop} {Q : Exit → Act → World → Prop} (s x : Operand)
    (ho : o.op = .call { callee := .builtin .append, args := #[s, x], argTypes := #[23, 23] }) (B g cap : Nat) (c : List Nat) (hs : a.eval s = .slice (some ⟨g, 0, none⟩) c.length cap) (hown : Own B w g cap c)
    (ao : Option Addr) (c2 : Nat) (l : List Nat) (hx : a.eval x = .slice ao l.length c2) (hr : Row w ao l) (hn : ao = none → c2 = 0) (b1 : c.length + l.length ≤ cap)
    (h : ∀ w', Own B w' g cap (c ++ l) → w.grownBy w' (some g) → K (a.put o.dst (.slice (some ⟨g, 0, none⟩) (c.length + l.length) cap)) w') : o.wp Try.prog a w K Q := by
  obtain ⟨i0, hi, hz0, hz1, hz2⟩ := info_parts Try.info5
  cases ao with
  | none =>
    obtain rfl := row_none hr
    obtain rfl := hn rfl
    have hrun := run_append_owned_none (P := Try.prog) (w := w) B 23 o.type 5 i0 1 Try.underlying23 hi _ _ _ hown
    have h0 := h w (by simpa using hown) (World.grownBy.refl _ _)
    unfold Oper.wp
    simp [execOp, ho, resolve, invoke, builtin, hs, hx, hrun, Result.andThen]
    exact h0
  | some ad =>
    obtain ⟨w', hrun, r1, r2⟩ := run_append_fits (P := Try.prog) w B 23 o.type 5 i0 1 Try.underlying23 hi hz1 g c.length cap (cv c) hown ad l.length c2 (cv l) (by rw [cv_length, Nat.mul_one]) (row_news hr) (cv_one _) b1
    unfold Oper.wp
    simp [execOp, ho, resolve, invoke, builtin, hs, hx, hrun, Result.andThen]
    refine h w' ?_ r2
    unfold Own
    rw [cv_append, List.length_append]
    exact r1
/-- Behind takeBody, m bytes of b taken. -/
def TBP (w : World) (B p : Nat) (hd : List Nat) (h : Nat) (v : Value) (sh : Bool) (c : List Nat) (size : Nat) (a : Option Addr) (cap : Nat) (l : List Nat) (m : Nat) (e : Ending) (w' : World) : Prop :=
  ∃ a' cap' g, e = .returned (.slice a' (l.drop m).length cap') ∧ (∀ W E, InE W E a cap l → InE W E a' cap' (l.drop m)) ∧ FBox w' p hd h (.slice (some ⟨g, 0, none⟩) (c ++ l.take m).length size) sh ∧ Own B w' g size (c ++ l.take m) ∧ Keeps (p :: v.ownBlock.toList) w w' ∧ (v.ownBlock = some g ∨ w.heap.size ≤ g)
theorem blk_ne {w : World} {p g : Nat} {hd : List Nat} {h : Nat} {v : Value} {sh : Bool} {B cap : Nat} {c : List Nat} (b : FBox w p hd h v sh) (o : Own B w g cap c) : p ≠ g := by
  rintro rfl
  rcases o.2 with ⟨e, _⟩ | ⟨g', cap', cur, e, _, hg, _⟩
  · cases e
  · injection e with e1
    injection e1 with e1
    injection e1 with e1
    subst e1
    have := b.box
    rw [hg] at this
    simp at this
theorem tb_end {w w2 : World} {B p g size : Nat} {hd : List Nat} {h : Nat} {v : Value} {sh : Bool} {c : List Nat} (hb : FBox w p hd h v sh) (ho : Own B w2 g size c) (hg : w.drew.grownBy w2 (some g)) (hpg : p ≠ g) :
    (∀ u, FBox (w2.setCell ⟨p, 5, none⟩ u) p hd h u sh) ∧ ∀ u, Own B (w2.setCell ⟨p, 5, none⟩ u) g size c ∧ Keeps [p, g] w (w2.setCell ⟨p, 5, none⟩ u) := by
  have hlt : g < w2.heap.size := ho.ge.2
  have hne : p ≠ g := hpg
  have k : Keeps [p, g] w w2 := Keeps.grown (Keeps.refl _ _).drew hg (fun x e => by injection e with e; subst e; simp)
  have hb2 : FBox w2 p hd h v sh := ⟨by rw [hg.block p (Array.getElem?_eq_some_iff.1 hb.box).1 (by simpa using hne)]; exact hb.box, hb.len, hb.lt⟩
  refine ⟨fun u => hb2.putBody u, fun u => ⟨?_, k.setCell _ _ (.inl (by simp))⟩⟩
  have k2 : Keeps [p] w2 (w2.setCell ⟨p, 5, none⟩ u) := (Keeps.refl _ _).setCell _ _ (.inl (by simp))
  exact k2.owns ho (fun x e => by simp [Value.ownBlock] at e; subst e; simpa using Ne.symm hne)
set_option maxHeartbeats 800000 in
set_option maxRecDepth 100000 in
theorem takeBody_some (B p : Nat) (hd : List Nat) (h : Nat) (g : Nat) (sh : Bool) (c : List Nat) (size : Nat) (a : Option Addr) (cap : Nat) (l : List Nat) (w : World) (hb : FBox w p hd h (.slice (some ⟨g, 0, none⟩) c.length size) sh) (ho : Own B w g size c) (hs : c.length ≤ size) (hs2 : size ≤ 8192) (hi : InE w [p, g] a cap l) :
    Calls Try.prog 21 #[.pointer (some ⟨p, 0, none⟩), .slice a l.length cap, .int .i64 (size : Int)] w fun e w' => TBP w B p hd h (.slice (some ⟨g, 0, none⟩) c.length size) sh c size a cap l (min (size - c.length) l.length) e w' := by
  obtain ⟨m, hm⟩ : ∃ m, m = min (size - c.length) l.length := ⟨_, rfl⟩
  rw [← hm]
  have hm1 : m ≤ size - c.length ∧ m ≤ l.length ∧ (m = size - c.length ∨ m = l.length) := by omega
  have hmin : (if l.length < size - c.length then (l.length : Int) else ((size - c.length : Nat) : Int)) = (m : Int) := by split <;> omega
  clear hm
  have HI : Hid (InE w [p, g] a cap l) := hi
  have HB : Hid (FBox w p hd h (.slice (some ⟨g, 0, none⟩) c.length size) sh) := hb
  have HO1 : Hid (Own B w.drew g size c) := ho
  have HR1 : Hid (Row w.drew a (l.take m)) := row_take hi.row m
  have HNC : Hid (a = none → cap = 0) := hi.nil
  have HPG : Hid (p ≠ g) := blk_ne hb ho
  have HPL : Hid (p < w.drew.heap.size) := (Array.getElem?_eq_some_iff.1 hb.box).1
  have HTL : Hid ((l.take m).length = m) := by show _ = _; rw [List.length_take]; omega
  have hcm : cap ≤ 9223372036854775807 := by have h1 := hi.max; unfold maxLen at h1; omega
  have hlc := hi.le
  obtain ⟨z, z4, z5, z6, zf⟩ := hb.cells
  have zf5 : w.drew.frozen? ⟨p, 5, none⟩ = false := zf 5
  clear hi hb ho z zf z4 z6
  obtain ⟨n, hn⟩ : ∃ n, n = c.length := ⟨_, rfl⟩
  rw [← hn] at hs hm1 z5 hmin ⊢
  obtain ⟨L, hL⟩ : ∃ n, n = l.length := ⟨_, rfl⟩
  rw [← hL] at hm1 hlc hmin ⊢
  have hsn : IntKind.i64.wrap ((size : Int) - (n : Int)) = ((size - n : Nat) : Int) := by rw [IntKind.wrap_i64]; omega
  have hsn2 : (size : Int) - (n : Int) = ((size - n : Nat) : Int) := by omega
  have keq : ∀ x, (binOp .eql 23 (.slice (some ⟨g, 0, none⟩) n size) (.slice none 0 0)).run Try.prog x = .ok (.bool false) x := fun x => eql_nil x (some ⟨g, 0, none⟩) n size
  have HN : Hid (n = c.length) := hn
  have HL : Hid (L = l.length) := hL
  clear hn hL
  have hmc : (m : Int) ≤ (cap : Int) := by omega
  have hmL : (m : Int) ≤ (L : Int) := by omega
  have ks : ∀ y, (Instr.slice 23 (.slice a L cap) (some (.int .i64 (m : Int))) none none).run Try.prog y = .ok (.slice (cutA a cap m) (L - m) (cap - m)) y := fun y => run_slice_from y a L cap m .i64 (by omega)
  go_enter Try.func21, Try.ntmps21
  go_wp2_with fail
  refine wp_region_lat (fun y => y.cell? ⟨p, 5, none⟩ = some (.slice (some ⟨g, 0, none⟩) n size)) 11 (by kernel_rfl) z5 (fun hHeld => ?_)
  refine lat_take 0 (v := ?_) rfl (by kernel_rfl) (by kernel_rfl) (by kernel_rfl) (by kernel_rfl) (fun _ _ _ h => h) (by rfl) ?_ (by assumption) ?_
  rotate_left
  · (intro w hSw; (try dsimp only at hSw); go_simp <;> with_reducible rfl)
  try simp only [Act.put, List.setIfInBounds_toArray, List.set_cons_zero, List.set_cons_succ]
  refine lat_take 1 (v := ?_) rfl (by kernel_rfl) (by kernel_rfl) (by kernel_rfl) (by kernel_rfl) (fun _ _ _ h => h) (by rfl) ?_ (by assumption) ?_
  rotate_left
  · (intro w hSw; (try dsimp only at hSw); go_simp <;> with_reducible rfl)
  try simp only [Act.put, List.setIfInBounds_toArray, List.set_cons_zero, List.set_cons_succ]
  refine lat_take 2 (v := ?_) rfl (by kernel_rfl) (by kernel_rfl) (by kernel_rfl) (by kernel_rfl) (fun _ _ _ h => h) (by rfl) ?_ (by assumption) ?_
  rotate_left
  · (intro w hSw; (try dsimp only at hSw); go_simp <;> with_reducible rfl)
  try simp only [Act.put, List.setIfInBounds_toArray, List.set_cons_zero, List.set_cons_succ]
  refine lat_take 3 (v := ?_) rfl (by kernel_rfl) (by kernel_rfl) (by kernel_rfl) (by kernel_rfl) (fun _ _ _ h => h) (by rfl) ?_ (by assumption) ?_
  rotate_left
  · (intro w hSw; (try dsimp only at hSw); go_simp <;> with_reducible rfl)
  try simp only [Act.put, List.setIfInBounds_toArray, List.set_cons_zero, List.set_cons_succ]
  refine lat_take 4 (v := ?_) rfl (by kernel_rfl) (by kernel_rfl) (by kernel_rfl) (by kernel_rfl) (fun _ _ _ h => h) (by rfl) ?_ (by assumption) ?_
  rotate_left
  · (intro w hSw; (try dsimp only at hSw); go_simp <;> with_reducible rfl)
  try simp only [Act.put, List.setIfInBounds_toArray, List.set_cons_zero, List.set_cons_succ]
  refine lat_take 5 (v := ?_) rfl (by kernel_rfl) (by kernel_rfl) (by kernel_rfl) (by kernel_rfl) (fun _ _ _ h => h) (by rfl) ?_ (by assumption) ?_
  rotate_left
  · (intro w hSw; (try dsimp only at hSw); go_simp <;> with_reducible rfl)
  try simp only [Act.put, List.setIfInBounds_toArray, List.set_cons_zero, List.set_cons_succ]
  refine lat_take 6 (v := ?_) rfl (by kernel_rfl) (by kernel_rfl) (by kernel_rfl) (by kernel_rfl) (fun _ _ _ h => h) (by rfl) ?_ (by assumption) ?_
  rotate_left
  · (intro w hSw; (try dsimp only at hSw); go_simp <;> with_reducible rfl)
  try simp only [Act.put, List.setIfInBounds_toArray, List.set_cons_zero, List.set_cons_succ]
  refine lat_take 7 (v := ?_) rfl (by kernel_rfl) (by kernel_rfl) (by kernel_rfl) (by kernel_rfl) (fun _ _ _ h => h) (by rfl) ?_ (by assumption) ?_
  rotate_left
  · (intro w hSw; (try dsimp only at hSw); go_simp <;> with_reducible rfl)
  try simp only [Act.put, List.setIfInBounds_toArray, List.set_cons_zero, List.set_cons_succ]
  refine lat_one 8 rfl (by kernel_rfl) (by decide) (by rfl) (fun K hK => ?_)
  refine wp_append_fits _ _ rfl B g size c (by rw [← HN.out]; rfl) HO1.out a cap (l.take m) (by rw [HTL.out]; rfl) HR1.out HNC.out (by rw [HTL.out, ← HN.out]; omega) ?_
  intro w2 hown2 hg2
  have hS2 : w2.cell? ⟨p, 5, none⟩ = some (.slice (some ⟨g, 0, none⟩) n size) := hg2.cell hHeld (by simpa using HPG.out)
  refine hK.out _ _ hS2 (fun _ => ?_)
  clear hK
  try simp only [Act.put, List.setIfInBounds_toArray, List.set_cons_zero, List.set_cons_succ]
  refine lat_take 9 (v := ?_) rfl (by kernel_rfl) (by kernel_rfl) (by kernel_rfl) (by kernel_rfl) (fun _ _ _ h => h) (by rfl) ?_ (by assumption) ?_
  rotate_left
  · (intro w hSw; (try dsimp only at hSw); go_simp <;> with_reducible rfl)
  try simp only [Act.put, List.setIfInBounds_toArray, List.set_cons_zero, List.set_cons_succ]
  refine lat_take 10 (v := ?_) rfl (by kernel_rfl) (by kernel_rfl) (by kernel_rfl) (by kernel_rfl) (fun _ _ _ h => h) (by rfl) ?_ (by assumption) ?_
  rotate_left
  · (intro w hSw; (try dsimp only at hSw); go_simp <;> with_reducible rfl)
  try simp only [Act.put, List.setIfInBounds_toArray, List.set_cons_zero, List.set_cons_succ]
  have hfz : w2.frozen? ⟨p, 5, none⟩ = false := (World.frozen?_of_block (a := ⟨p, 5, none⟩) (hg2.block p HPL.out (by simpa using HPG.out))).trans zf5
  refine lat_last 11 rfl (by kernel_rfl) (by decide) (by kernel_rfl) (by rfl) (fun K hK => ?_)
  have hS2' := hS2
  unfold Oper.wp
  go_simp
  refine hK.out _ _ ?_
  go_wp2_with fail
  go_ret
  have hend := tb_end HB.out hown2 hg2 HPG.out
  exact ⟨cutA a cap m, cap - m, g, by rw [List.length_drop, ← HL.out]; rfl, fun W E hE => hE.cut m, by rw [List.length_append]; simpa [List.length_take] using hend.1 (.slice (some ⟨g, 0, none⟩) (c ++ l.take m).length size), (hend.2 _).1, (hend.2 _).2, .inl rfl⟩
set_option maxHeartbeats 800000 in
set_option maxRecDepth 100000 in
theorem takeBody_nil (B p : Nat) (hd : List Nat) (h : Nat) (sh : Bool) (size : Nat) (a : Option Addr) (cap : Nat) (l : List Nat) (w : World) (hb : FBox w p hd h (.slice none 0 0) sh) (hBs : B ≤ w.heap.size) (hs2 : size ≤ 8192) (hi : InE w [p] a cap l) :
    Calls Try.prog 21 #[.pointer (some ⟨p, 0, none⟩), .slice a l.length cap, .int .i64 (size : Int)] w fun e w' => TBP w B p hd h (.slice none 0 0) sh [] size a cap l (min size l.length) e w' := by
  obtain ⟨i0, hi0, hz0, hz1, hz2⟩ := info_parts Try.info5
  obtain ⟨m, hm⟩ : ∃ m, m = min size l.length := ⟨_, rfl⟩
  rw [← hm]
  have hm1 : m ≤ size ∧ m ≤ l.length ∧ (m = size ∨ m = l.length) := by omega
  have hmin : (if l.length < size then (l.length : Int) else (size : Int)) = (m : Int) := by split <;> omega
  clear hm
  have HB : Hid (FBox w p hd h (.slice none 0 0) sh) := hb
  obtain ⟨z, z4, z5, z6, zf⟩ := hb.cells
  have zf5 : w.frozen? ⟨p, 5, none⟩ = false := zf 5
  have keq : ∀ x, (binOp .eql 23 (.slice none 0 0) (.slice none 0 0)).run Try.prog x = .ok (.bool true) x := fun x => eql_nil x none 0 0
  have HBS : Hid (B ≤ w.heap.size) := hBs
  have HI : Hid (InE w [p] a cap l) := hi
  have HPL0 : Hid (p < w.heap.size) := (Array.getElem?_eq_some_iff.1 hb.box).1
  have HNC : Hid (a = none → cap = 0) := hi.nil
  have HTL : Hid ((l.take m).length = m) := by show _ = _; rw [List.length_take]; omega
  have hcm : cap ≤ 9223372036854775807 := by have h1 := hi.max; unfold maxLen at h1; omega
  have hlc := hi.le
  clear hi hb z zf z4 z6 hBs
  obtain ⟨L, hL⟩ : ∃ n, n = l.length := ⟨_, rfl⟩
  rw [← hL] at hm1 hlc hmin ⊢
  have HL : Hid (L = l.length) := hL
  clear hL
  have hmc : (m : Int) ≤ (cap : Int) := by omega
  have hmL : (m : Int) ≤ (L : Int) := by omega
  have ks : ∀ y, (Instr.slice 23 (.slice a L cap) (some (.int .i64 (m : Int))) none none).run Try.prog y = .ok (.slice (cutA a cap m) (L - m) (cap - m)) y := fun y => run_slice_from y a L cap m .i64 (by omega)
  go_enter Try.func21, Try.ntmps21
  go_wp2_with (at_make; refine wpList_make_own _ rfl _ _ 23 rfl B 5 i0 (.int .u8 0) 1 Try.underlying23 hi0 hz0 hz1 .i64 .i64 _ size rfl rfl rfl (by rw [hz2]; omega) (by unfold maxLen; omega) HBS.out ?_; intro w1 hown1 hg1; have HO0 : Hid (w1.ownsRow B 5 1 (.slice (some ⟨w.heap.size, 0, none⟩) 0 size) 0 []) := hown1; have HG1 : Hid (w.grownBy w1 none) := hg1; have z5' := hg1.cell z5 (by simp); have zf5' := (World.frozen?_of_block (a := ⟨p, 5, none⟩) (hg1.block p HPL0.out (by simp))).trans zf5; clear hown1 hg1 z5 zf5)
  obtain ⟨g, hgw⟩ : ∃ g, g = w.heap.size := ⟨_, rfl⟩
  rw [← hgw]
  rw [← hgw] at HO0
  have hO1 : Own B w1 g size [] := HO0.out
  have hB1 : FBox w1 p hd h (.slice none 0 0) sh := HB.out.keeps (F := []) (Keeps.grown (Keeps.refl _ _) HG1.out (fun x e => by cases e)) (by simp)
  have hpg : p ≠ g := by have := HPL0.out; omega
  have hbox : FBox (w1.setCell ⟨p, 5, none⟩ (.slice (some ⟨g, 0, none⟩) 0 size)) p hd h (.slice (some ⟨g, 0, none⟩) 0 size) sh := hB1.putBody _
  have hkeep : Keeps [p] w (w1.setCell ⟨p, 5, none⟩ (.slice (some ⟨g, 0, none⟩) 0 size)) := (Keeps.grown (Keeps.refl _ _) HG1.out (fun x e => by cases e)).setCell _ _ (.inl (by simp))
  have hown : Own B (w1.setCell ⟨p, 5, none⟩ (.slice (some ⟨g, 0, none⟩) 0 size)) g size [] := Keeps.owns (F := [p]) ((Keeps.refl _ _).setCell _ _ (.inl (by simp))) hO1 (fun x e => by simp [Value.ownBlock] at e; subst e; simpa using Ne.symm hpg)
  generalize (w1.setCell ⟨p, 5, none⟩ (.slice (some ⟨g, 0, none⟩) 0 size)) = W at hbox hkeep hown ⊢
  have HKW : Hid (Keeps [p] w W) := hkeep
  have HBW : Hid (FBox W p hd h (.slice (some ⟨g, 0, none⟩) 0 size) sh) := hbox
  have HO1 : Hid (Own B W.drew g size []) := hown
  have HR1 : Hid (Row W.drew a (l.take m)) := row_take (HI.out.keeps hkeep (fun x hx => .inl hx)).row m
  have HPG : Hid (p ≠ g) := hpg
  have HGW : Hid (g = w.heap.size) := hgw
  have HPL : Hid (p < W.drew.heap.size) := (Array.getElem?_eq_some_iff.1 hbox.box).1
  obtain ⟨z, z4, z5, z6, zf⟩ := hbox.cells
  have zf5 : W.drew.frozen? ⟨p, 5, none⟩ = false := zf 5
  have HN : Hid (0 = ([] : List Nat).length) := rfl
  clear z z4 z6 zf hbox hkeep hown hO1 hB1 hpg hgw z5' zf5' HO0 HG1
  refine wp_region_lat (fun y => y.cell? ⟨p, 5, none⟩ = some (.slice (some ⟨g, 0, none⟩) 0 size)) 11 (by kernel_rfl) z5 (fun hHeld => ?_)
  refine lat_take 0 (v := ?_) rfl (by kernel_rfl) (by kernel_rfl) (by kernel_rfl) (by kernel_rfl) (fun _ _ _ h => h) (by rfl) ?_ (by assumption) ?_
  rotate_left
  · (intro w hSw; (try dsimp only at hSw); go_simp <;> with_reducible rfl)
  try simp only [Act.put, List.setIfInBounds_toArray, List.set_cons_zero, List.set_cons_succ]
  refine lat_take 1 (v := ?_) rfl (by kernel_rfl) (by kernel_rfl) (by kernel_rfl) (by kernel_rfl) (fun _ _ _ h => h) (by rfl) ?_ (by assumption) ?_
  rotate_left
  · (intro w hSw; (try dsimp only at hSw); go_simp <;> with_reducible rfl)
  try simp only [Act.put, List.setIfInBounds_toArray, List.set_cons_zero, List.set_cons_succ]
  refine lat_take 2 (v := ?_) rfl (by kernel_rfl) (by kernel_rfl) (by kernel_rfl) (by kernel_rfl) (fun _ _ _ h => h) (by rfl) ?_ (by assumption) ?_
  rotate_left
  · (intro w hSw; (try dsimp only at hSw); go_simp <;> with_reducible rfl)
  try simp only [Act.put, List.setIfInBounds_toArray, List.set_cons_zero, List.set_cons_succ]
  refine lat_take 3 (v := ?_) rfl (by kernel_rfl) (by kernel_rfl) (by kernel_rfl) (by kernel_rfl) (fun _ _ _ h => h) (by rfl) ?_ (by assumption) ?_
  rotate_left
  · (intro w hSw; (try dsimp only at hSw); go_simp <;> with_reducible rfl)
  try simp only [Act.put, List.setIfInBounds_toArray, List.set_cons_zero, List.set_cons_succ]
  refine lat_take 4 (v := ?_) rfl (by kernel_rfl) (by kernel_rfl) (by kernel_rfl) (by kernel_rfl) (fun _ _ _ h => h) (by rfl) ?_ (by assumption) ?_
  rotate_left
  · (intro w hSw; (try dsimp only at hSw); go_simp <;> with_reducible rfl)
  try simp only [Act.put, List.setIfInBounds_toArray, List.set_cons_zero, List.set_cons_succ]
  refine lat_take 5 (v := ?_) rfl (by kernel_rfl) (by kernel_rfl) (by kernel_rfl) (by kernel_rfl) (fun _ _ _ h => h) (by rfl) ?_ (by assumption) ?_
  rotate_left
  · (intro w hSw; (try dsimp only at hSw); go_simp <;> with_reducible rfl)
  try simp only [Act.put, List.setIfInBounds_toArray, List.set_cons_zero, List.set_cons_succ]
  refine lat_take 6 (v := ?_) rfl (by kernel_rfl) (by kernel_rfl) (by kernel_rfl) (by kernel_rfl) (fun _ _ _ h => h) (by rfl) ?_ (by assumption) ?_
  rotate_left
  · (intro w hSw; (try dsimp only at hSw); go_simp <;> with_reducible rfl)
  try simp only [Act.put, List.setIfInBounds_toArray, List.set_cons_zero, List.set_cons_succ]
  refine lat_take 7 (v := ?_) rfl (by kernel_rfl) (by kernel_rfl) (by kernel_rfl) (by kernel_rfl) (fun _ _ _ h => h) (by rfl) ?_ (by assumption) ?_
  rotate_left
  · (intro w hSw; (try dsimp only at hSw); go_simp <;> with_reducible rfl)
  try simp only [Act.put, List.setIfInBounds_toArray, List.set_cons_zero, List.set_cons_succ]
  refine lat_one 8 rfl (by kernel_rfl) (by decide) (by rfl) (fun K hK => ?_)
  refine wp_append_fits _ _ rfl B g size [] (by rw [← HN.out]; rfl) HO1.out a cap (l.take m) (by rw [HTL.out]; rfl) HR1.out HNC.out (by rw [HTL.out, ← HN.out]; omega) ?_
  intro w2 hown2 hg2
  have hS2 : w2.cell? ⟨p, 5, none⟩ = some (.slice (some ⟨g, 0, none⟩) 0 size) := hg2.cell hHeld (by simpa using HPG.out)
  refine hK.out _ _ hS2 (fun _ => ?_)
  clear hK
  try simp only [Act.put, List.setIfInBounds_toArray, List.set_cons_zero, List.set_cons_succ]
  refine lat_take 9 (v := ?_) rfl (by kernel_rfl) (by kernel_rfl) (by kernel_rfl) (by kernel_rfl) (fun _ _ _ h => h) (by rfl) ?_ (by assumption) ?_
  rotate_left
  · (intro w hSw; (try dsimp only at hSw); go_simp <;> with_reducible rfl)
  try simp only [Act.put, List.setIfInBounds_toArray, List.set_cons_zero, List.set_cons_succ]
  refine lat_take 10 (v := ?_) rfl (by kernel_rfl) (by kernel_rfl) (by kernel_rfl) (by kernel_rfl) (fun _ _ _ h => h) (by rfl) ?_ (by assumption) ?_
  rotate_left
  · (intro w hSw; (try dsimp only at hSw); go_simp <;> with_reducible rfl)
  try simp only [Act.put, List.setIfInBounds_toArray, List.set_cons_zero, List.set_cons_succ]
  have hfz : w2.frozen? ⟨p, 5, none⟩ = false := (World.frozen?_of_block (a := ⟨p, 5, none⟩) (hg2.block p HPL.out (by simpa using HPG.out))).trans zf5
  refine lat_last 11 rfl (by kernel_rfl) (by decide) (by kernel_rfl) (by rfl) (fun K hK => ?_)
  have hS2' := hS2
  unfold Oper.wp
  go_simp
  refine hK.out _ _ ?_
  go_wp2_with fail
  go_ret
  have hend := tb_end HBW.out hown2 hg2 HPG.out
  exact ⟨cutA a cap m, cap - m, g, by rw [List.length_drop, ← HL.out]; rfl, fun W E hE => hE.cut m, by rw [show (([] : List Nat) ++ l.take m).length = min m l.length by simp]; simpa [List.length_take] using hend.1 (.slice (some ⟨g, 0, none⟩) (min m l.length) size), (hend.2 _).1, HKW.out.trans ((hend.2 _).2) (fun x hx => by have := HGW.out; simp at hx ⊢; omega), .inr (by have := HGW.out; omega)⟩
end Go.Proofs.Ythbomgjjdmogpaa
