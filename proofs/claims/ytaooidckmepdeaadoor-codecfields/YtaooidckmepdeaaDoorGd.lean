/- Ka Nw Kb Wi Cs Hd Bx Be Kc in one text (wip/tools/merge20.py). -/
import Derived.Test.YtaooidckmepdeaaDoorGc
import Derived.Test.YtaooidckmepdeaaDoorGa
import Derived.Test.YtaooidckmepdeaaDoorGb
import Derived.Lib.AppendStr
import Derived.WalkKit
import Derived.Laws.BitsAllLaws
import Derived.Laws.Rows
import Derived.Laws.Tables
import Derived.Laws.ResultCell
namespace Go.Proofs.YtaooidckmepdeaaDoor
set_option linter.unusedSimpArgs false
set_option linter.unusedVariables false
open Go.RowKit
/-- No row of bytes. -/
def NotB (o : Obj) : Prop := ∀ cs fr, o ≠ .cells cs 5 fr
theorem notB {cs : Array Value} {t : TypeId} {fr : Nat × Nat} (h : t ≠ 5) : NotB (.cells cs t fr) := by
  intro cs' fr' e
  injection e with _ e2 _
  exact h e2
/-- What is no row of bytes stays, but for block B. -/
structure KeepT (B : Nat) (w w' : World) : Prop where
  size : w.heap.size ≤ w'.heap.size
  blk : ∀ x o, x ≠ B → w.heap[x]? = some o → NotB o → w'.heap[x]? = some o
theorem KeepT.refl (B : Nat) (w : World) : KeepT B w w := ⟨Nat.le_refl _, fun _ _ _ h _ => h⟩
theorem KeepT.trans {B : Nat} {w w1 w2 : World} (h : KeepT B w w1) (k : KeepT B w1 w2) : KeepT B w w2 :=
  ⟨Nat.le_trans h.size k.size, fun x o hx ho hn => k.blk x o hx (h.blk x o hx ho hn) hn⟩
theorem KeepT.of_below {B : Nat} {w w' : World} (h : Below w.heap.size w w') : KeepT B w w' :=
  ⟨h.size, fun x o _ ho _ => (h.block x (Array.getElem?_eq_some_iff.1 ho).1).trans ho⟩
theorem KeepT.grown {B M : Nat} {w w' : World} {v : Value} {n : Nat} {xs : List Value} (own : w.ownsRow M 5 1 v n xs) (g : w.grownBy w' v.ownBlock) : KeepT B w w' := by
  refine ⟨g.size, fun x o _ ho hn => (g.block x (Array.getElem?_eq_some_iff.1 ho).1 (fun e => ?_)).trans ho⟩
  rcases own.2 with ⟨rfl, _⟩ | ⟨b, cap, cur, rfl, _, hb, _⟩
  · cases e
  · simp only [Value.ownBlock, Option.some.injEq] at e
    subst e
    rw [hb] at ho
    injection ho with ho
    exact hn _ _ ho.symm
theorem KeepT.setCell (B off : Nat) (w : World) (v : Value) : KeepT B w (w.setCell ⟨B, off, none⟩ v) :=
  ⟨by simp [World.setCell], fun x o hx ho _ => (heap_setCell_other w ⟨B, off, none⟩ x v hx).trans ho⟩
theorem KeepT.drewN {B : Nat} {w w' : World} (h : KeepT B w w') (n : Nat) : KeepT B w (w'.drewN n) := ⟨h.size, h.blk⟩
/-- The writer's box lies behind w0: what was laid, or that something may not be. -/
structure WrS (w0 w : World) (st : Ls) (N : Nat) : Prop where
  ex : ∃ v l, w.heap[w0.heap.size]? = some (.cells #[v, .bool st.isNone] 60 (0, 0)) ∧ w.ownsRow w0.heap.size 5 1 v l.length (cv l) ∧ Byt l ∧ l.length ≤ N ∧ ∀ L, st = some L → l = L
  bel : Below w0.heap.size w0 w
theorem own_any {M : Nat} {w w' : World} {e : TypeId} {s : Nat} {v : Value} {n : Nat} {xs : List Value} (h : w.ownsRow M e s v n xs) (hb : Below w.heap.size w w') : w'.ownsRow M e s v n xs := by
  refine World.ownsRow.kept (row := none) h ⟨hb.os, hb.tape, hb.output, hb.size, fun k hk _ => hb.block k hk⟩ ?_
  cases v.ownBlock with
  | none => exact .inl rfl
  | some g => exact .inr (by simp)
theorem WrS.below {w0 w w' : World} {st : Ls} {N : Nat} (h : WrS w0 w st N) (hb : Below w.heap.size w w') : WrS w0 w' st N := by
  obtain ⟨v, l, hx, ho, r⟩ := h.ex
  exact ⟨⟨v, l, (hb.block _ (Array.getElem?_eq_some_iff.1 hx).1).trans hx, own_any ho hb, r⟩, h.bel.trans (hb.mono h.bel.size)⟩
theorem WrS.mono {w0 w : World} {st : Ls} {N M : Nat} (h : WrS w0 w st N) (hm : N ≤ M) : WrS w0 w st M := by
  obtain ⟨v, l, hx, ho, hb, hl, hs⟩ := h.ex
  exact ⟨⟨v, l, hx, ho, hb, Nat.le_trans hl hm, hs⟩, h.bel⟩
theorem box_at {w : World} {B : Nat} {cs : Array Value} {t : TypeId} (h : w.heap[B]? = some (.cells cs t (0, 0))) (i : Nat) : w.cell? ⟨B, i, none⟩ = cs[i]? ∧ w.frozen? ⟨B, i, none⟩ = false :=
  ⟨cell_of_row _ B i cs t (0, 0) h, by simp [World.frozen?, h]⟩
/-- The bytes that a row of the call's own shows. -/
theorem own_slice {w : World} {M : Nat} {v : Value} {l : List Nat} (h : w.ownsRow M 5 1 v l.length (cv l)) : ∃ a c, v = .slice a l.length c := by
  rcases h.2 with ⟨rfl, h0⟩ | ⟨g, cap, cur, rfl, _⟩
  · exact ⟨none, 0, by rw [h0]⟩
  · exact ⟨_, _, rfl⟩
theorem own_box {w : World} {M B : Nat} {v : Value} {n : Nat} {xs : List Value} {cs : Array Value} {t : TypeId} (h : w.ownsRow M 5 1 v n xs) (hx : w.heap[B]? = some (.cells cs t (0, 0))) (ht : t ≠ 5) : ∀ k, v.ownBlock = some k → k ≠ B := by
  rcases h.2 with ⟨rfl, _⟩ | ⟨g, cap, cur, rfl, _, hg, _⟩
  · intro k e; cases e
  · rintro k e rfl
    simp [Value.ownBlock] at e
    subst e
    rw [hg] at hx
    simp at hx
    exact ht hx.2.symm
theorem own_setCell {w : World} {M B off : Nat} {v u : Value} {n : Nat} {xs : List Value} (h : w.ownsRow M 5 1 v n xs) (hk : ∀ k, v.ownBlock = some k → k ≠ B) : (w.setCell ⟨B, off, none⟩ u).ownsRow M 5 1 v n xs := by
  refine ⟨h.1, ?_⟩
  rcases h.2 with hn | ⟨g, cap, cur, rfl, hb, hg, rest⟩
  · exact .inl hn
  · exact .inr ⟨g, cap, cur, rfl, hb, (heap_setCell_other w ⟨B, off, none⟩ g u (hk g rfl)).trans hg, rest⟩
theorem WrS.setBad {w0 w : World} {st : Ls} {N : Nat} (h : WrS w0 w st N) (st' : Ls) (bad : Bool) (hb : bad = st'.isNone) (hst : ∀ L, st' = some L → st = some L) : WrS w0 (w.setCell ⟨w0.heap.size, 1, none⟩ (.bool bad)) st' N ∧ KeepT w0.heap.size w (w.setCell ⟨w0.heap.size, 1, none⟩ (.bool bad)) := by
  obtain ⟨v, l, hx, ho, hbt, hl, hs⟩ := h.ex
  subst hb
  refine ⟨⟨⟨v, l, ?_, own_setCell ho (own_box ho hx (by decide)), hbt, hl, fun L e => hs L (hst L e)⟩, h.bel.setCell (p := ⟨w0.heap.size, 1, none⟩) (Nat.le_refl _) _⟩, KeepT.setCell _ _ _ _⟩
  rw [setCell_heap hx]
  rfl
theorem WrS.app {w0 w w1 : World} {st : Ls} {N M : Nat} {v v' : Value} {l m : List Nat} (hx : w.heap[w0.heap.size]? = some (.cells #[v, .bool st.isNone] 60 (0, 0))) (ho : w.ownsRow w0.heap.size 5 1 v l.length (cv l)) (hbt : Byt l) (hl : l.length ≤ N) (hs : ∀ L, st = some L → l = L)
    (bel : Below w0.heap.size w0 w) (ho' : w1.ownsRow w0.heap.size 5 1 v' (l ++ m).length (cv (l ++ m))) (g : w.grownBy w1 v.ownBlock) (hm : Byt m) (hM : N + m.length ≤ M) : WrS w0 (w1.setCell ⟨w0.heap.size, 0, none⟩ v') (oa st (some m)) M ∧ KeepT w0.heap.size w (w1.setCell ⟨w0.heap.size, 0, none⟩ v') := by
  have hx1 : w1.heap[w0.heap.size]? = some (.cells #[v, .bool st.isNone] 60 (0, 0)) := (g.block _ (Array.getElem?_eq_some_iff.1 hx).1 (fun e => own_box ho hx (by decide) _ e.symm rfl)).trans hx
  have b1 : Below w0.heap.size w0 w1 := bel.grown g bel.size (fun k hk => (ho.lt k hk).1)
  refine ⟨⟨⟨v', l ++ m, ?_, own_setCell ho' (own_box ho' hx1 (by decide)), hbt.app hm, by rw [List.length_append]; omega, ?_⟩, b1.setCell (p := ⟨w0.heap.size, 0, none⟩) (Nat.le_refl _) _⟩, (KeepT.grown ho g).trans (KeepT.setCell _ _ _ _)⟩
  · rw [setCell_heap hx1]
    cases st <;> rfl
  · intro L e
    obtain ⟨x, y, e1, e2, rfl⟩ := oa_some e
    rw [hs x e1]
    injection e2 with e2
    rw [e2]
/-- append of bytes, and of a text, onto a row of the call's own. -/
theorem wpList_append_rw {w : World} {ops : Array Oper} {rest : List Oper} {o : Oper} {a : Act} {Q : Exit → Act → World → Prop} (hw : Region.wanted o (yielded ops a.tmps) = true) (s x : Operand)
    (ho : o.op = .call { callee := .builtin .append, args := #[s, x], argTypes := #[29, 29] }) (B : Nat)
    (v : Value) (l : List Nat) (hs : a.eval s = v) (hown : w.ownsRow B 5 1 v l.length (cv l)) (hBs : B ≤ w.heap.size)
    (a' : Option Addr) (n cap : Nat) (m : List Nat) (hx : a.eval x = .slice a' n cap) (hn : n = m.length) (hr : Row w a' m) (hc : a' = none → cap = 0) (h63 : l.length + m.length ≤ 1000000000000)
    (h : ∀ v' w', w'.ownsRow B 5 1 v' (l ++ m).length (cv (l ++ m)) → w.grownBy w' v.ownBlock → wpList Tryd.prog ops Q rest (a.put o.dst v') w') : wpList Tryd.prog ops Q (o :: rest) a w := by
  obtain ⟨i0, hi, hz0, hz1, hz2⟩ := info_parts Tryd.info5
  subst hn
  refine BigFrame.wpList_want hw fun K hK => ?_
  cases a' with
  | none =>
    obtain rfl := row_none hr
    obtain rfl := hc rfl
    have hrun := run_append_owned_none (P := Tryd.prog) (w := w) B 29 o.type 5 i0 1 Tryd.underlying29 hi v l.length (cv l) hown
    have h0 : wpList Tryd.prog ops Q rest (a.put o.dst v) w := h v w (by simpa using hown) (World.grownBy.refl _ _)
    unfold Oper.wp
    simp [execOp, ho, resolve, invoke, builtin, hs, hx, hrun, Result.andThen]
    exact hK _ _ h0
  | some ad =>
    refine wp_append_own w s x 29 ho B 5 i0 (.int .u8 0) 1 1 Tryd.underlying29 hi hz0 hz1 hz2 rfl (by decide) v l.length (cv l) hs hown ad m.length cap (cv m) hx (by rw [cv_length]; omega) (row_news hr) (cv_one _) (by unfold maxLen; omega) (by omega) hBs ?_
    intro v' w' h2 h3 _
    exact hK _ _ (h v' w' (by rw [List.length_append, cv_append]; exact h2) h3)
theorem sb_cv (t : ByteArray) : Lib.strCells t = cv (sb t) := by
  unfold Lib.strCells cv sb
  simp
theorem wpList_append_txt {w : World} {ops : Array Oper} {rest : List Oper} {o : Oper} {a : Act} {Q : Exit → Act → World → Prop} (hw : Region.wanted o (yielded ops a.tmps) = true) (s x : Operand)
    (ho : o.op = .call { callee := .builtin .append, args := #[s, x], argTypes := #[29, 9] }) (B : Nat)
    (v : Value) (l : List Nat) (hs : a.eval s = v) (hown : w.ownsRow B 5 1 v l.length (cv l)) (hBs : B ≤ w.heap.size)
    (t : ByteArray) (hx : a.eval x = .string t) (h63 : l.length + t.size ≤ 1000000000000)
    (h : ∀ v' w', w'.ownsRow B 5 1 v' (l ++ sb t).length (cv (l ++ sb t)) → w.grownBy w' v.ownBlock → wpList Tryd.prog ops Q rest (a.put o.dst v') w') : wpList Tryd.prog ops Q (o :: rest) a w := by
  obtain ⟨i0, hi, hz0, hz1, hz2⟩ := info_parts Tryd.info5
  refine BigFrame.wpList_want hw fun K hK => ?_
  obtain ⟨v', w', hr, h2, h3, h4⟩ := Lib.run_append_own_string (P := Tryd.prog) w B 29 9 o.type 5 i0 Tryd.underlying29 Tryd.underlying9 hi hz0 hz1 hz2 v l.length (cv l) hown t (by unfold maxLen; omega) (by omega) hBs
  rw [sb_cv] at h2
  unfold Oper.wp execOp
  simp only [ho, resolve, invoke, builtin, Sem.run_bind, Sem.run_pure, Result.andThen_ok, List.map_toArray, List.map_cons, List.map_nil, hs, hx, hr]
  exact hK _ _ (h v' w' (by rw [List.length_append, cv_append, sb_len]; exact h2) h3)
/-- What a method of the writer leaves. -/
def WP (w0 w : World) (st : Ls) (N : Nat) (e : Ending) (w' : World) : Prop := e = .returned (.tuple #[]) ∧ WrS w0 w' st N ∧ KeepT w0.heap.size w w'
theorem put_new {n V : Nat} {l : List Nat} (h : l.length = n) : putL l 0 n true V = lay n V := by
  have := put_mid [] l [] n V h
  simpa using this
theorem lay_byt (n V : Nat) : Byt (lay n V) := lay_mem n V
theorem made_zero (m : Nat) : madeCells (Value.int .u8 0).cells (m * 1) = (cv (List.replicate m 0)).toArray := by
  unfold madeCells
  apply Array.ext
  · simp [cv]
  · intro i h1 h2
    simp [Value.cells, cv, Nat.mod_one]
theorem run_made (n : Nat) (Z : Int) (hZ : Z = n) (h : n ≤ 1000000) (w : World) : (Instr.makeSlice 29 (.int .i64 Z) (.int .i64 Z)).run Tryd.prog w = .ok (.slice (some ⟨w.heap.size, 0, none⟩) n n) (w.alloc (.cells (cv (List.replicate n 0)).toArray 5)) := by
  subst hZ
  obtain ⟨i0, hi, hz0, hz1, hz2⟩ := info_parts Tryd.info5
  have hr := run_make (P := Tryd.prog) w 29 5 i0 (.int .u8 0) Tryd.underlying29 hi hz0 .i64 .i64 (n : Int) (n : Int) (by omega) (by omega) (by rw [hz2]; omega) (by omega)
  rw [hz1, Int.toNat_natCast, made_zero] at hr
  exact hr
/-- Put into new bytes. -/
theorem put_zero (n V : Nat) (Z : Int) (hZ : Z = n) (h1 : 1 ≤ n) (h8 : n ≤ 8) (hV : V ≤ 18446744073709551615) (w : World) :
    Calls Tryd.prog 52 #[.slice (some ⟨w.heap.size, 0, none⟩) n n, .int .i64 0, .int .i64 Z, .bool true, .int .u64 V] (w.alloc (.cells (cv (List.replicate n 0)).toArray 5)) fun e w' =>
      (∃ g, e = .returned (.tuple #[.slice (some ⟨g, 0, none⟩) n n, .bool true]) ∧ Row w' (some ⟨g, 0, none⟩) (lay n V)) ∧ Below w.heap.size w w' := by
  subst hZ
  have hl : (List.replicate n 0).length = n := List.length_replicate
  have h := put_yes (some ⟨w.heap.size, 0, none⟩) n (List.replicate n 0) 0 n true V (w.alloc (.cells (cv (List.replicate n 0)).toArray 5)) (row_alloc w _ (lt_mem (fun x hx => by have := List.eq_of_mem_replicate hx; omega))) (by rw [hl]; omega) h1 h8 (by rw [hl]; omega) hV
  rw [hl, put_new hl] at h
  refine h.mono ?_
  rintro e w' ⟨⟨g, rfl, ho⟩, hb⟩
  exact ⟨⟨g, rfl, ho.row (lay_byt n V).getD⟩, (below_box _).trans (hb.mono (by simp))⟩
theorem len_own {w : World} {M : Nat} {a : Option Addr} {c k : Nat} {l : List Nat} {xs : List Value} (h : w.ownsRow M 5 1 (.slice a k c) l.length xs) : k = l.length := by
  rcases h.2 with ⟨e, h0⟩ | ⟨g, cap, cur, e, _⟩
  · injection e with _ e _; omega
  · injection e with _ e _
set_option maxHeartbeats 800000 in
set_option maxRecDepth 100000 in
theorem wput_any (w0 w : World) (st : Ls) (N n V : Nat) (Z : Int) (hZ : Z = n) (h : WrS w0 w st N) (hn : n = 1 ∨ n = 2 ∨ n = 4 ∨ n = 8) (hV : V ≤ 18446744073709551615) (hN : N ≤ 900000000000) :
    Calls Tryd.prog 41 #[.pointer (some ⟨w0.heap.size, 0, none⟩), .int .i64 Z, .int .u64 V] w (WP w0 w (oa st (some (lay n V))) (N + 8)) := by
  have HP : Hid _ := put_zero n V Z hZ (by omega) (by omega) hV w
  have HL : Hid ((lay n V).length = n) := lay_len n V
  have HB : Hid (Byt (lay n V)) := lay_byt n V
  have HW : Hid (WrS w0 w st N) := h
  clear h
  generalize lay n V = m at *
  have km := run_made n Z hZ (by omega)
  have hn8 : n ≤ 8 := by omega
  clear hn hZ
  go_enter Tryd.func41, Tryd.ntmps41
  go_wp2_with (first
    | (go_at_call 52; refine Calls.mono HP.out ?_; rintro e w1 ⟨⟨g, rfl, hr⟩, hb⟩; have hW1 := HW.out.below hb; obtain ⟨⟨v, l, hx, ho, hbt, hl, hs⟩, bel⟩ := hW1; have HO : Hid (w1.ownsRow w0.heap.size 5 1 v l.length (cv l)) := ho; have HR : Hid (Row w1 (some ⟨g, 0, none⟩) m) := hr; have HX : Hid (w1.heap[w0.heap.size]? = some (.cells #[v, .bool st.isNone] 60 (0, 0))) := hx; have HS : Hid (∀ L, st = some L → l = L) := hs; have HBL : Hid (Below w0.heap.size w0 w1) := bel; have HBW : Hid (Below w.heap.size w w1) := hb; obtain ⟨a, c, rfl⟩ := own_slice ho; have c0 := (box_at hx 0).1; have c1 := (box_at hx 1).1; have f0 := (box_at hx 0).2; simp only [List.getElem?_toArray, List.getElem?_cons_zero, List.getElem?_cons_succ] at c0 c1; clear hr ho hx hs bel hb)
    | (at_builtin; refine wpList_append_rw (by rfl) _ _ rfl w0.heap.size _ l rfl HO.out (HBL.out.size) (some ⟨g, 0, none⟩) _ _ m rfl HL.out.symm HR.out (fun q => by cases q) (by rw [HL.out]; omega) ?_; intro v' w2 ho2 hg2; obtain ⟨a2, c2, rfl⟩ := own_slice ho2; have hfin := WrS.app HX.out HO.out hbt hl HS.out HBL.out ho2 hg2 HB.out (Nat.le_trans (Nat.add_le_add_left (by rw [HL.out]; omega) _) (Nat.le_refl (N + 8))); have HF : Hid _ := hfin; have f2 : w2.frozen? ⟨w0.heap.size, 0, none⟩ = false := (by have q := (hg2.block w0.heap.size (Array.getElem?_eq_some_iff.1 HX.out).1 (fun e => own_box HO.out HX.out (by decide) _ e.symm rfl)).trans HX.out; exact (box_at q 0).2); have d2 : ∃ u, w2.cell? ⟨w0.heap.size, 0, none⟩ = some u := (by have q := (hg2.block w0.heap.size (Array.getElem?_eq_some_iff.1 HX.out).1 (fun e => own_box HO.out HX.out (by decide) _ e.symm rfl)).trans HX.out; exact ⟨_, (box_at q 0).1⟩); obtain ⟨u2, d2⟩ := d2; clear ho2 hg2 hfin))
  go_end0
  have q := HF.out
  rw [List.length_append] at q
  exact ⟨rfl, q.1, (KeepT.of_below HBW.out).trans q.2⟩

end Go.Proofs.YtaooidckmepdeaaDoor
namespace Go.Proofs.YtaooidckmepdeaaDoor
set_option linter.unusedSimpArgs false
set_option linter.unusedVariables false
open Go.RowKit
theorem p2pos (n : Nat) : (0 : Int) < 2 ^ n := Int.pow_pos (by decide)
theorem p64 (n : Nat) (h : n ≤ 64) : (2 : Int) ^ (64 - n) * 2 ^ n = 18446744073709551616 := by
  rw [← Int.pow_add, show 64 - n + n = 64 by omega]; rfl
theorem p2succ (n : Nat) (h : 1 ≤ n) : (2 : Int) ^ n = 2 * 2 ^ (n - 1) := by
  obtain ⟨m, rfl⟩ : ∃ m, n = m + 1 := ⟨n - 1, by omega⟩
  simp [Int.pow_succ]; omega
theorem p2le (m n : Nat) (h : m ≤ n) : (2 : Int) ^ m ≤ 2 ^ n := by
  have := Nat.pow_le_pow_right (n := 2) (by decide) h
  exact_mod_cast this
theorem shl_eq (u : Int) (n : Nat) (h : n ≤ 64) : u * 2 ^ (64 - n) % 18446744073709551616 = u % 2 ^ n * 2 ^ (64 - n) := by
  rw [← p64 n h, Int.mul_comm u, Int.mul_emod_mul_of_pos _ _ (p2pos _), Int.mul_comm]

/-- Widen. -/
def widen (u : Int) (n : Nat) (s : Bool) : Int :=
  if s then (if u % 2 ^ n < 2 ^ (n - 1) then u % 2 ^ n else u % 2 ^ n - 2 ^ n) else wrap64 (u % 2 ^ n)
theorem mod_bd (u : Int) (n : Nat) : 0 ≤ u % 2 ^ n ∧ u % 2 ^ n < 2 ^ n := ⟨Int.emod_nonneg _ (by have := p2pos n; omega), Int.emod_lt_of_pos _ (p2pos n)⟩
theorem widenS_eq (u : Int) (n : Nat) (h1 : 1 ≤ n) (h : n ≤ 64) : wrap64 (IntKind.u64.wrap (u * 2 ^ (64 - n))) / 2 ^ (64 - n) = widen u n true := by
  rw [IntKind.wrap_u64, shl_eq u n h]
  have hS := p2pos (64 - n)
  have hp := p64 n h
  have hs := p2succ n h1
  obtain ⟨b0, b1⟩ := mod_bd u n
  unfold widen
  simp only [if_true]
  generalize u % 2 ^ n = r at *
  rw [hs] at hp b1 ⊢
  generalize (2 : Int) ^ (64 - n) = S at *
  generalize (2 : Int) ^ (n - 1) = H at *
  have hHS : H * S = 9223372036854775808 := by
    have : S * (2 * H) = 2 * (H * S) := by rw [Int.mul_left_comm, Int.mul_comm S H]
    omega
  by_cases hr : r < H
  · rw [if_pos hr]
    have h2 : r * S < H * S := Int.mul_lt_mul_of_pos_right hr hS
    have h3 : 0 ≤ r * S := Int.mul_nonneg b0 (by omega)
    rw [w64 _ (by omega) (by omega)]
    exact Int.mul_ediv_cancel r (by omega)
  · rw [if_neg hr]
    have h2 : H * S ≤ r * S := Int.mul_le_mul_of_nonneg_right (by omega) (by omega)
    have h3 : r * S < 2 * H * S := Int.mul_lt_mul_of_pos_right b1 hS
    have h4 : 2 * H * S = 18446744073709551616 := by rw [Int.mul_assoc]; omega
    have h5 : wrap64 (r * S) = (r - 2 * H) * S := by rw [Int.sub_mul]; unfold wrap64; omega
    rw [h5]
    exact Int.mul_ediv_cancel _ (by omega)
theorem widenU_eq0 (u : Int) (n : Nat) (h : n ≤ 64) : IntKind.u64.wrap (u * 2 ^ (64 - n)) / 2 ^ (64 - n) = u % 2 ^ n := by
  rw [IntKind.wrap_u64, shl_eq u n h]
  exact Int.mul_ediv_cancel _ (by have := p2pos (64 - n); omega)
theorem widenU_eq (u : Int) (n : Nat) (h : n ≤ 64) : wrap64 (IntKind.u64.wrap (u * 2 ^ (64 - n)) / 2 ^ (64 - n)) = widen u n false := by
  rw [widenU_eq0 u n h]; simp [widen]

/-- Narrow: does it fit? -/
def fitsIn (v : Int) (n : Nat) (s : Bool) : Bool := if s then decide (-2 ^ (n - 1) ≤ v ∧ v < 2 ^ (n - 1)) else decide (0 ≤ v ∧ v < 2 ^ n)
theorem p2le64 (n : Nat) (h : n ≤ 64) : (2 : Int) ^ n ≤ 18446744073709551616 := by have := p2le n 64 h; simpa using this
theorem widen_narrow (v : Int) (n : Nat) (s : Bool) (h1 : 1 ≤ n) (h : n ≤ 64) (v0 : -9223372036854775808 ≤ v) (v1 : v ≤ 9223372036854775807) (hs : s = false → 0 ≤ v) :
    (widen (v % 2 ^ n) n s = v) ↔ fitsIn v n s = true := by
  have hsu := p2succ n h1
  have hp := p2pos (n - 1)
  have h64 := p2le64 n h
  obtain ⟨b0, b1⟩ := mod_bd v n
  unfold widen fitsIn
  rw [Int.emod_emod_of_dvd _ (Int.dvd_refl _)]
  have hq := Int.emod_add_mul_ediv v (2 ^ n)
  cases s
  · simp only [Bool.false_eq_true, if_false, decide_eq_true_eq]
    have := hs rfl
    constructor
    · intro e
      refine ⟨this, ?_⟩
      by_cases h2 : v % 2 ^ n ≤ 9223372036854775807
      · rw [w64 _ (by omega) h2] at e; omega
      · exfalso
        unfold wrap64 at e
        omega
    · intro e
      rw [Int.emod_eq_of_lt e.1 e.2]
      exact w64 _ (by omega) (by omega)
  · simp only [if_true, decide_eq_true_eq]
    rw [hsu] at hq b0 b1 ⊢
    generalize v % (2 * 2 ^ (n - 1)) = r at *
    generalize v / (2 * 2 ^ (n - 1)) = q at *
    generalize (2 : Int) ^ (n - 1) = H at *
    constructor
    · intro e; split at e <;> omega
    · rintro ⟨e0, e1⟩
      have hq1 : q = 0 ∨ q = -1 := by
        have c1 : q < 1 := by
          apply Int.lt_of_not_ge; intro hc
          have : 2 * H * 1 ≤ 2 * H * q := Int.mul_le_mul_of_nonneg_left hc (by omega)
          omega
        have c2 : -2 < q := by
          apply Int.lt_of_not_ge; intro hc
          have : 2 * H * q ≤ 2 * H * (-2) := Int.mul_le_mul_of_nonneg_left hc (by omega)
          omega
        omega
      rcases hq1 with rfl | rfl
      · rw [if_pos (by omega)]; omega
      · rw [if_neg (by omega)]; omega
theorem retIB {k : IntKind} {a b : Int} {c d : Bool} (h : a = b) (h2 : c = d) : Ending.returned (.tuple #[.int k a, .bool c]) = .returned (.tuple #[.int k b, .bool d]) := by rw [h, h2]

theorem width_yes (v : Int) (w : World) (h1 : 1 ≤ v) (h2 : v ≤ 64) : Calls Tryd.prog 50 #[.int .i64 v] w fun e w' => e = .returned (.bool true) ∧ w' = w := by
  go_enter Tryd.func50, Tryd.ntmps50
  go_wp2
  go_ret
  simp [h1, h2]
theorem width_no (v : Int) (w : World) (h : v < 1 ∨ 64 < v) : Calls Tryd.prog 50 #[.int .i64 v] w fun e w' => e = .returned (.bool false) ∧ w' = w := by
  rcases h with h | h
  · go_enter Tryd.func50, Tryd.ntmps50
    go_wp2
    go_ret
    simp [show ¬ 1 ≤ v by omega]
  · have h1 : 1 ≤ v := by omega
    go_enter Tryd.func50, Tryd.ntmps50
    go_wp2
    go_ret
    simp [h1]
    omega
def widenI (u n : Int) (s : Bool) : Int := if n < 1 ∨ 64 < n then 0 else widen u n.toNat s
theorem widen_any (u n : Int) (s : Bool) (w : World) (h0 : 0 ≤ u) (h1 : u ≤ 18446744073709551615) :
    Calls Tryd.prog 51 #[.int .u64 u, .int .i64 n, .bool s] w fun e w' => e = .returned (.int .i64 (widenI u n s)) ∧ w' = w := by
  by_cases hn : n < 1 ∨ 64 < n
  · go_enter Tryd.func51, Tryd.ntmps51
    go_wp2_with (go_at_call 50; refine (width_no _ _ hn).mono ?_; rintro e w' ⟨rfl, rfl⟩)
    go_ret
    exact ⟨retI (by simp [widenI, hn]), rfl⟩
  · obtain ⟨m, rfl⟩ := Int.eq_ofNat_of_zero_le (show 0 ≤ n by omega)
    have hm0 : 1 ≤ (m : Int) := by omega
    have hm1 : (m : Int) ≤ 64 := by omega
    have e2 : widenI u m s = widen u m s := by simp [widenI]; omega
    have HE : Hid (widenI u m s = widen u m s) := e2
    clear e2 hn
    cases s
    · go_enter Tryd.func51, Tryd.ntmps51
      go_wp2_with (go_at_call 50; refine (width_yes _ _ hm0 hm1).mono ?_; rintro e w' ⟨rfl, rfl⟩)
      go_ret
      refine ⟨retI ?_, rfl⟩
      rw [HE.out, ← widenU_eq u m (by omega)]
    · go_enter Tryd.func51, Tryd.ntmps51
      go_wp2_with (go_at_call 50; refine (width_yes _ _ hm0 hm1).mono ?_; rintro e w' ⟨rfl, rfl⟩)
      go_ret
      refine ⟨retI ?_, rfl⟩
      rw [HE.out, ← widenS_eq u m (by omega) (by omega)]

def narrowB (v n : Int) (s : Bool) : Bool := decide (1 ≤ n ∧ n ≤ 64) && fitsIn v n.toNat s
def narrowV (v n : Int) (s : Bool) : Int := if narrowB v n s then v % 2 ^ n.toNat else 0
theorem narrowB_wide (v n : Int) (s : Bool) (hn : n < 1 ∨ 64 < n) : narrowB v n s = false := by
  simp [narrowB]; intro a b; omega
theorem narrow_any (v n : Int) (s : Bool) (w : World) (h0 : -9223372036854775808 ≤ v) (h1 : v ≤ 9223372036854775807) :
    Calls Tryd.prog 40 #[.int .i64 v, .int .i64 n, .bool s] w fun e w' => e = .returned (.tuple #[.int .u64 (narrowV v n s), .bool (narrowB v n s)]) ∧ w' = w := by
  by_cases hn : n < 1 ∨ 64 < n
  · go_enter Tryd.func40, Tryd.ntmps40
    go_wp2_with (go_at_call 50; refine (width_no _ _ hn).mono ?_; rintro e w' ⟨rfl, rfl⟩)
    go_ret2
    exact ⟨retIB (by simp [narrowV, narrowB_wide v n s hn]) (by rw [narrowB_wide v n s hn]), rfl⟩
  · obtain ⟨m, rfl⟩ := Int.eq_ofNat_of_zero_le (show 0 ≤ n by omega)
    have hm0 : 1 ≤ (m : Int) := by omega
    have hm1 : (m : Int) ≤ 64 := by omega
    have HB : Hid (narrowB v m s = fitsIn v m s) := by
      show _ = _
      simp [narrowB]; intros; omega
    have HV : Hid (IntKind.u64.wrap (IntKind.u64.wrap v * 2 ^ (64 - m)) / 2 ^ (64 - m) = v % 2 ^ m) := by
      show _ = _
      rw [widenU_eq0 _ m (by omega), IntKind.wrap_u64]
      exact Int.emod_emod_of_dvd _ ⟨_, by rw [Int.mul_comm]; exact (p64 m (by omega)).symm⟩
    have HM := mod_bd v m
    have H64 := p2le64 m (by omega)
    clear hn
    by_cases hv : v < 0 ∧ s = false
    · obtain ⟨hv0, rfl⟩ := hv
      go_enter Tryd.func40, Tryd.ntmps40
      go_wp2_with (go_at_call 50; refine (width_yes _ _ hm0 hm1).mono ?_; rintro e w' ⟨rfl, rfl⟩)
      go_ret2
      have e : narrowB v m false = false := by rw [HB.out]; simp [fitsIn]; omega
      exact ⟨retIB (by simp [narrowV, e]) e.symm, rfl⟩
    · have HW : Hid ((widen (v % 2 ^ m) m s = v) ↔ fitsIn v m s = true) := widen_narrow v m s (by omega) (by omega) h0 h1 (by intro e; by_cases h : v < 0 <;> simp_all)
      have HI : Hid (widenI (v % 2 ^ m) m s = widen (v % 2 ^ m) m s) := by show _ = _; simp [widenI]; omega
      by_cases hf : fitsIn v m s = true
      · have e : narrowB v m s = true := by rw [HB.out]; exact hf
        have hwd : widenI (v % 2 ^ m) m s = v := by rw [HI.out]; exact HW.out.2 hf
        have HE : Hid (narrowB v m s = true) := e
        clear hf e
        by_cases hv0 : v < 0
        · have hs : s = true := by cases s <;> simp_all
          subst hs
          go_enter Tryd.func40, Tryd.ntmps40
          go_wp2_with (first | (go_at_call 50; refine (width_yes _ _ hm0 hm1).mono ?_; rintro e w' ⟨rfl, rfl⟩) | (go_at_call 51; rw [HV.out]; refine (widen_any _ _ _ _ (by omega) (by omega)).mono ?_; rintro e w' ⟨rfl, rfl⟩; rw [hwd]))
          go_ret2
          exact ⟨retIB (by simp [narrowV, HE.out]) HE.out.symm, rfl⟩
        · clear hv
          have HV2 : Hid (IntKind.u64.wrap (v * 2 ^ (64 - m)) / 2 ^ (64 - m) = v % 2 ^ m) := widenU_eq0 v m (by omega)
          go_enter Tryd.func40, Tryd.ntmps40
          go_wp2_with (first | (go_at_call 50; refine (width_yes _ _ hm0 hm1).mono ?_; rintro e w' ⟨rfl, rfl⟩) | (go_at_call 51; rw [HV2.out]; refine (widen_any _ _ _ _ (by omega) (by omega)).mono ?_; rintro e w' ⟨rfl, rfl⟩; rw [hwd]))
          go_ret2
          exact ⟨retIB (by simp [narrowV, HE.out]) HE.out.symm, rfl⟩
      · have e : narrowB v m s = false := by rw [HB.out]; simpa using hf
        have hwd : (widenI (v % 2 ^ m) m s != v) = true := by rw [HI.out, bne_iff_ne]; exact fun c => hf (HW.out.1 c)
        have HE : Hid (narrowB v m s = false) := e
        clear hf e
        by_cases hv0 : v < 0
        · have hs : s = true := by cases s <;> simp_all
          subst hs
          go_enter Tryd.func40, Tryd.ntmps40
          go_wp2_with (first | (go_at_call 50; refine (width_yes _ _ hm0 hm1).mono ?_; rintro e w' ⟨rfl, rfl⟩) | (go_at_call 51; rw [HV.out]; refine (widen_any _ _ _ _ (by omega) (by omega)).mono ?_; rintro e w' ⟨rfl, rfl⟩))
          go_ret2
          exact ⟨retIB (by simp [narrowV, HE.out]) HE.out.symm, rfl⟩
        · clear hv
          have HV2 : Hid (IntKind.u64.wrap (v * 2 ^ (64 - m)) / 2 ^ (64 - m) = v % 2 ^ m) := widenU_eq0 v m (by omega)
          go_enter Tryd.func40, Tryd.ntmps40
          go_wp2_with (first | (go_at_call 50; refine (width_yes _ _ hm0 hm1).mono ?_; rintro e w' ⟨rfl, rfl⟩) | (go_at_call 51; rw [HV2.out]; refine (widen_any _ _ _ _ (by omega) (by omega)).mono ?_; rintro e w' ⟨rfl, rfl⟩))
          go_ret2
          exact ⟨retIB (by simp [narrowV, HE.out]) HE.out.symm, rfl⟩
end Go.Proofs.YtaooidckmepdeaaDoor
namespace Go.Proofs.YtaooidckmepdeaaDoor
set_option linter.unusedSimpArgs false
set_option linter.unusedVariables false
open Go.RowKit
/-- Narrow to n bytes. -/
def narOk (n : Nat) (v : Int) : Bool := decide (0 ≤ v ∧ v < ((256 ^ n : Nat) : Int))
def narV (n : Nat) (v : Int) : Nat := if narOk n v = true then v.toNat else 0
theorem narV_le (n : Nat) (v : Int) (hn : n = 1 ∨ n = 2 ∨ n = 4) : narV n v ≤ 18446744073709551615 := by
  unfold narV narOk
  split
  · rename_i h
    simp only [decide_eq_true_eq] at h
    rcases hn with rfl | rfl | rfl <;> omega
  · omega
theorem nar_eNat (n : Nat) (v : Int) : eNat n v = if narOk n v = true then some (lay n (narV n v)) else none := by
  unfold eNat narV narOk
  by_cases h : 0 ≤ v ∧ v < ((256 ^ n : Nat) : Int)
  · rw [if_pos h, decide_eq_true h]; rfl
  · rw [if_neg h, decide_eq_false h]; rfl
theorem nar_of (n : Nat) (v : Int) (hn : n = 1 ∨ n = 2 ∨ n = 4) (Z : Int) (hZ : Z = 8 * (n : Int)) : narrowB v Z false = narOk n v ∧ narrowV v Z false = ((narV n v : Nat) : Int) := by
  have h1 : narrowB v Z false = narOk n v := by
    rcases hn with rfl | rfl | rfl <;> subst hZ <;> simp [narrowB, narOk, fitsIn]
  refine ⟨h1, ?_⟩
  unfold narrowV narV
  rw [h1]
  split
  · rename_i h
    simp only [narOk, decide_eq_true_eq] at h
    rcases hn with rfl | rfl | rfl <;> subst hZ <;> simp <;> omega
  · rfl
theorem nar_call (n : Nat) (v : Int) (hn : n = 1 ∨ n = 2 ∨ n = 4) (Z : Int) (hZ : Z = 8 * (n : Int)) (hv : In64 v) (w : World) :
    Calls Tryd.prog 40 #[.int .i64 v, .int .i64 Z, .bool false] w fun e w' => e = .returned (.tuple #[.int .u64 ((narV n v : Nat) : Int), .bool (narOk n v)]) ∧ w' = w := by
  have := narrow_any v Z false w hv.1 hv.2
  rw [(nar_of n v hn Z hZ).1, (nar_of n v hn Z hZ).2] at this
  exact this
theorem WrS.open {w0 w : World} {st : Ls} {N : Nat} (h : WrS w0 w st N) : ∃ a n c, w.cell? ⟨w0.heap.size, 0, none⟩ = some (.slice a n c) ∧ w.cell? ⟨w0.heap.size, 1, none⟩ = some (.bool st.isNone) ∧ w.frozen? ⟨w0.heap.size, 0, none⟩ = false ∧ w.frozen? ⟨w0.heap.size, 1, none⟩ = false ∧ w0.heap.size < w.heap.size := by
  obtain ⟨v, l, hx, ho, _⟩ := h.ex
  obtain ⟨a, c, rfl⟩ := own_slice ho
  exact ⟨a, l.length, c, (box_at hx 0).1, (box_at hx 1).1, (box_at hx 0).2, (box_at hx 1).2, (Array.getElem?_eq_some_iff.1 hx).1⟩
set_option maxHeartbeats 800000 in
set_option maxRecDepth 100000 in
theorem wnat_in (w0 w : World) (st st1 : Ls) (N n V : Nat) (Z K v : Int) (bad ok : Bool) (hb : bad = st.isNone) (h1 : (bad || !ok) = st1.isNone) (hst : ∀ L, st1 = some L → st = some L) (hK : IntKind.i64.wrap (8 * Z) = K) (h : WrS w0 w st N)
    (HN : Hid (∀ x, Calls Tryd.prog 40 #[.int .i64 v, .int .i64 K, .bool false] x fun e w' => e = .returned (.tuple #[.int .u64 (V : Int), .bool ok]) ∧ w' = x))
    (HP : Hid (∀ x, WrS w0 x st1 N → Calls Tryd.prog 41 #[.pointer (some ⟨w0.heap.size, 0, none⟩), .int .i64 Z, .int .u64 (V : Int)] x (WP w0 x (oa st1 (some (lay n V))) (N + 8)))) :
    Calls Tryd.prog 23 #[.pointer (some ⟨w0.heap.size, 0, none⟩), .int .i64 Z, .int .i64 v] w (WP w0 w (oa st1 (some (lay n V))) (N + 8)) := by
  obtain ⟨a, m, c, c0, c1, f0, f1, hz⟩ := h.open
  rw [← hb] at c1
  have HS : Hid _ := h.setBad st1 (bad || !ok) h1 hst
  clear h h1 hst hb
  generalize oa st1 (some (lay n V)) = st2 at *
  cases bad <;> cases ok
  all_goals
    simp only [Bool.not_true, Bool.not_false, Bool.or_true, Bool.or_false, Bool.true_or, Bool.false_or] at HS
    go_enter Tryd.func23, Tryd.ntmps23
    go_wp2_with (first
      | (go_at_call 40; refine (HN.out _).mono ?_; rintro e w1 ⟨rfl, rfl⟩)
      | (go_at_call 41; refine (HP.out _ HS.out.1).mono ?_; rintro e w2 ⟨rfl, hw2, hk2⟩))
    go_end0
    exact ⟨rfl, hw2, HS.out.2.trans hk2⟩
theorem wnat_any (w0 w : World) (st : Ls) (N n : Nat) (Z v : Int) (hZ : Z = n) (hn : n = 1 ∨ n = 2 ∨ n = 4) (hv : In64 v) (hN : N ≤ 900000000000) (h : WrS w0 w st N) :
    Calls Tryd.prog 23 #[.pointer (some ⟨w0.heap.size, 0, none⟩), .int .i64 Z, .int .i64 v] w (WP w0 w (oa st (eNat n v)) (N + 8)) := by
  have hK : IntKind.i64.wrap (8 * Z) = 8 * (n : Int) := by rw [IntKind.wrap_i64]; omega
  have HN : Hid (∀ x, Calls Tryd.prog 40 #[.int .i64 v, .int .i64 (8 * (n : Int)), .bool false] x fun e w' => e = .returned (.tuple #[.int .u64 ((narV n v : Nat) : Int), .bool (narOk n v)]) ∧ w' = x) := fun x => nar_call n v hn _ rfl hv x
  have HP : Hid (∀ st1 x, WrS w0 x st1 N → Calls Tryd.prog 41 #[.pointer (some ⟨w0.heap.size, 0, none⟩), .int .i64 Z, .int .u64 ((narV n v : Nat) : Int)] x (WP w0 x (oa st1 (some (lay n (narV n v)))) (N + 8))) := fun st1 x hx => wput_any w0 x st1 N n (narV n v) Z hZ hx (by omega) (narV_le n v hn) hN
  rw [nar_eNat]
  cases hok : narOk n v with
  | true =>
    rw [hok] at HN
    simp only [if_true]
    exact wnat_in w0 w st st N n _ Z _ v st.isNone true rfl (by simp) (fun _ e => e) hK h HN (fun x hx => HP.out st x hx)
  | false =>
    rw [hok] at HN
    simp only [Bool.false_eq_true, if_false, oa_none]
    exact wnat_in w0 w st none N n _ Z _ v st.isNone false rfl (by simp) (fun _ e => by cases e) hK h HN (fun x hx => HP.out none x hx)
theorem u64_un (v : Int) : IntKind.u64.wrap v = ((un v : Nat) : Int) := by
  rw [IntKind.wrap_u64]; unfold un; omega
set_option maxRecDepth 100000 in
theorem wnum_any (w0 w : World) (st : Ls) (N : Nat) (v : Int) (hN : N ≤ 900000000000) (h : WrS w0 w st N) :
    Calls Tryd.prog 56 #[.pointer (some ⟨w0.heap.size, 0, none⟩), .int .i64 v] w (WP w0 w (oa st (some (eInt v))) (N + 8)) := by
  have HP : Hid _ := wput_any w0 w st N 8 (un v) 8 rfl h (by omega) (by have := un_lt v; omega) hN
  have hu := u64_un v
  unfold eInt
  generalize oa st (some (lay 8 (un v))) = st2 at *
  generalize un v = u at *
  go_enter Tryd.func56, Tryd.ntmps56
  go_wp2_with (go_at_call 41; refine Calls.mono HP.out ?_; rintro e w2 ⟨rfl, hw2, hk2⟩)
  go_end0
  exact ⟨rfl, hw2, hk2⟩
set_option maxHeartbeats 800000 in
set_option maxRecDepth 100000 in
theorem wtext_any (w0 w : World) (st : Ls) (N : Nat) (s : ByteArray) (hs : s.size ≤ 9223372036854775807) (hN : N ≤ 800000000000) (h : WrS w0 w st N) :
    Calls Tryd.prog 57 #[.pointer (some ⟨w0.heap.size, 0, none⟩), .string s] w (WP w0 w (oa st (eText s)) (N + 65600)) := by
  have HP : Hid _ := wnat_any w0 w st N 2 2 (s.size : Int) rfl (by omega) ⟨by omega, by omega⟩ (by omega) h
  by_cases hl : s.size ≤ 65535
  · have e1 : eNat 2 (s.size : Int) = some (lay 2 s.size) := by unfold eNat; rw [if_pos ⟨by omega, by omega⟩, Int.toNat_natCast]
    have e2 : oa st (eText s) = oa (oa st (some (lay 2 s.size))) (some (sb s)) := by unfold eText; rw [if_pos hl, oa_assoc]; rfl
    rw [e1] at HP
    rw [e2]
    generalize oa st (some (lay 2 s.size)) = st1 at *
    have HLS : Hid ((sb s).length = s.size) := sb_len s
    have hlI : (s.size : Int) ≤ 65535 := by omega
    cases st1 with
    | none =>
      rw [none_oa]
      go_enter Tryd.func57, Tryd.ntmps57
      go_wp2_with (go_at_call 23; refine Calls.mono HP.out ?_; rintro e w1 ⟨rfl, hw1, hk1⟩; obtain ⟨a, m, c, c0, c1, f0, f1, hz⟩ := hw1.open; simp only [Option.isNone_none] at c1)
      go_end0
      exact ⟨rfl, hw1.mono (by omega), hk1⟩
    | some L1 =>
      go_enter Tryd.func57, Tryd.ntmps57
      go_wp2_with (first
        | (go_at_call 23; refine Calls.mono HP.out ?_; rintro e w1 ⟨rfl, hw1, hk1⟩; obtain ⟨⟨v, l, hx, ho, hbt, hl2, hs2⟩, bel⟩ := hw1; have HO : Hid (w1.ownsRow w0.heap.size 5 1 v l.length (cv l)) := ho; have HX : Hid (w1.heap[w0.heap.size]? = some (.cells #[v, .bool (some L1 : Ls).isNone] 60 (0, 0))) := hx; have HS : Hid (∀ L, some L1 = some L → l = L) := hs2; have HBL : Hid (Below w0.heap.size w0 w1) := bel; obtain ⟨a, c, rfl⟩ := own_slice ho; have c0 := (box_at hx 0).1; have c1 := (box_at hx 1).1; have f0 := (box_at hx 0).2; simp only [List.getElem?_toArray, List.getElem?_cons_zero, List.getElem?_cons_succ, Option.isNone_some] at c0 c1; clear ho hx hs2 bel)
        | (at_builtin; refine wpList_append_txt (by rfl) _ _ rfl w0.heap.size _ l rfl HO.out (HBL.out.size) s rfl (by omega) ?_; intro v' w2 ho2 hg2; obtain ⟨a2, c2, rfl⟩ := own_slice ho2; have HF : Hid _ := WrS.app (M := N + 65600) HX.out HO.out hbt hl2 HS.out HBL.out ho2 hg2 (sb_byt s) (by rw [HLS.out]; omega); have hq2 : Hid _ := (hg2.block w0.heap.size (Array.getElem?_eq_some_iff.1 HX.out).1 (fun e => own_box HO.out HX.out (by decide) _ e.symm rfl)).trans HX.out; have f2 := (box_at hq2.out 0).2; have d2 := (box_at hq2.out 0).1; simp only [List.getElem?_toArray, List.getElem?_cons_zero] at d2; clear ho2 hg2))
      go_end0
      have q := HF.out
      rw [List.length_append] at q
      exact ⟨rfl, q.1, hk1.trans q.2⟩
  · have e1 : eNat 2 (s.size : Int) = none := by unfold eNat; rw [if_neg (by omega)]
    have e2 : eText s = none := by unfold eText; rw [if_neg hl]
    rw [e1, oa_none] at HP
    rw [e2, oa_none]
    have hsI : (s.size : Int) ≤ 9223372036854775807 := by omega
    go_enter Tryd.func57, Tryd.ntmps57
    go_wp2_with (go_at_call 23; refine Calls.mono HP.out ?_; rintro e w1 ⟨rfl, hw1, hk1⟩; obtain ⟨a, m, c, c0, c1, f0, f1, hz⟩ := hw1.open; simp only [Option.isNone_none] at c1)
    go_end0
    exact ⟨rfl, hw1.mono (by omega), hk1⟩
end Go.Proofs.YtaooidckmepdeaaDoor
namespace Go.Proofs.YtaooidckmepdeaaDoor
set_option linter.unusedSimpArgs false
set_option linter.unusedVariables false
open Go.RowKit
/-- An array of bytes by value. -/
def av (h : List Nat) : Value := .agg (cv h).toArray
theorem number_in (h : List Nat) (at' size : Nat) (w : World) (hl : h.length = 48) (hb : ∀ i, h.getD i 0 < 256) (h1 : 1 ≤ size) (h2 : size ≤ 8) (h3 : at' + size ≤ 48) :
    Calls Tryd.prog 98 #[av h, .int .i64 at', .int .i64 size] w fun e w' => e = .returned (.int .i64 (wrap64 (getV h at' size true))) ∧ Below w.heap.size w w' := by
  have HG : Hid (∀ w', Row w' (some ⟨w.heap.size, 0, none⟩) h → Calls Tryd.prog 67 #[.slice (some ⟨w.heap.size, 0, none⟩) 48 48, .int .i64 at', .int .i64 size, .bool true] w' fun e w2 => e = .returned (.tuple #[.int .u64 (getV h at' size true : Nat), .bool true]) ∧ w2 = w') := by
    intro w' hr
    have := get_yes (some ⟨w.heap.size, 0, none⟩) 48 h at' size true w' hr (by rw [hl]; unfold maxLen; omega) h1 h2 (by omega)
    rw [hl] at this
    exact this
  have HR : Hid (Row (w.alloc (.cells (cv h).toArray 155)) (some ⟨w.heap.size, 0, none⟩) h) := by
    intro i hi
    refine ⟨w.heap.size, 0, rfl, ?_, hb i⟩
    rw [cell_of_row _ w.heap.size (0 + i) (cv h).toArray 155 (0, 0) (heap_alloc_new w _)]
    simpa using cv_get h i hi
  generalize getV h at' size true = V at *
  simp only [av]
  generalize (cv h).toArray = cs at *
  go_enter Tryd.func98, Tryd.ntmps98
  go_wp2_with (go_at_call 67; refine (HG.out _ HR.out).mono ?_; rintro e w1 ⟨rfl, hw⟩; subst w1)
  go_ret
  exact ⟨rfl, below_box _⟩
theorem row_arr (w : World) (h : List Nat) (hb : ∀ i, h.getD i 0 < 256) : Row (w.alloc (.cells (cv h).toArray 155)) (some ⟨w.heap.size, 0, none⟩) h := by
  intro i hi
  refine ⟨w.heap.size, 0, rfl, ?_, hb i⟩
  rw [cell_of_row _ w.heap.size (0 + i) (cv h).toArray 155 (0, 0) (heap_alloc_new w _)]
  simpa using cv_get h i hi
theorem two_bel {w w1 : World} {o o2 : Obj} (h : Below ((w.alloc o).alloc o2).heap.size ((w.alloc o).alloc o2) w1) : Below w.heap.size w w1 :=
  (((Below.refl _ _).alloc (Nat.le_refl _) o).alloc (by simp) o2).trans (h.mono (by simp; omega))
theorem two_new {w w1 : World} {o : Obj} {cs : Array Value} {t : TypeId} (h : Below ((w.alloc o).alloc (.cells cs t)).heap.size ((w.alloc o).alloc (.cells cs t)) w1) : w1.heap[w.heap.size + 1]? = some (.cells cs t (0, 0)) := by
  rw [h.block (w.heap.size + 1) (by simp)]
  have := heap_alloc_new (w.alloc o) (.cells cs t)
  simpa using this
theorem Tryd.info5s' : (Tryd.prog.info? 5).map (·.size) = some 1 := by kernel_rfl
theorem Tryd.info155 : (Tryd.prog.info? 155).map (·.size) = some 48 := by kernel_rfl
theorem arr_size {m : List Nat} (h : (cv m).length = 48) : (cv m).toArray.size = 48 := by simpa using h
theorem arr_one (m : List Nat) : (cv m).toArray.all (·.oneCell') = true := by
  rw [Array.all_eq_true']
  intro x hx
  exact cv_one m x (by simpa using hx)
theorem spliced {w : World} {g : Nat} {t : TypeId} {cur cs : List Value} (h : Hid (w.heap[g]? = some (.cells (splice cur 0 cs).toArray t (0, 0)))) (hl : cs.length = cur.length) : w.heap[g]? = some (.cells cs.toArray t (0, 0)) := by
  have := h.out
  rwa [splice_all _ _ hl.symm] at this
theorem results_one {fn : Func} {p : Tmp} {ty : TypeId} (h : fn.results = #[.cell p ty]) (tmps : Array Value) (P : Program) (w : World) :
    (results fn tmps).run P w = ((asAddr (tmps.getD p undef)).run P w).andThen fun a w₁ => (loadVar ty a).run P w₁ := by
  simp only [results, h]
  simp [Sem.run_bind, Result.andThen]
theorem results_arr {fn : Func} {p : Tmp} (h : fn.results = #[.cell p 155]) (tmps : Array Value) (w : World) (g : Nat) (cs : Array Value) (hp : tmps.getD p undef = .pointer (some ⟨g, 0, none⟩)) (hi : (Tryd.prog.info? 155).map (·.size) = some cs.size) (hg : w.heap[g]? = some (.cells cs 155 (0, 0))) :
    (results fn tmps).run Tryd.prog w = .ok (.agg cs) w := by
  have h2 := run_loadVar_row (P := Tryd.prog) w g 155 155 cs (0, 0) _ hg Tryd.underlying155 rfl hi
  rw [results_one h, hp]
  simp [asAddr, h2, Result.andThen]
set_option maxRecDepth 100000 in
theorem with_in (h : List Nat) (at' size V : Nat) (w : World) (hl : h.length = 48) (hb : ∀ i, h.getD i 0 < 256) (h1 : 1 ≤ size) (h2 : size ≤ 8) (h3 : at' + size ≤ 48) (hV : V ≤ 9223372036854775807) :
    Calls Tryd.prog 90 #[av h, .int .i64 at', .int .i64 size, .int .i64 V] w fun e w' => e = .returned (av (putL h at' size true V)) ∧ Below w.heap.size w w' := by
  have HG : Hid (∀ w', Row w' (some ⟨w.heap.size, 0, none⟩) h → Calls Tryd.prog 52 #[.slice (some ⟨w.heap.size, 0, none⟩) 48 48, .int .i64 at', .int .i64 size, .bool true, .int .u64 V] w' fun e w2 =>
      (∃ g, e = .returned (.tuple #[.slice (some ⟨g, 0, none⟩) 48 48, .bool true]) ∧ Own w'.heap.size w2 g 48 (putL h at' size true V)) ∧ Below w'.heap.size w' w2) := by
    intro w' hr
    have := put_yes (some ⟨w.heap.size, 0, none⟩) 48 h at' size true V w' hr (by rw [hl]; omega) h1 h2 (by omega) (by omega)
    rw [hl] at this
    exact this
  have HR : Hid _ := row_arr w h hb
  have hwv : IntKind.u64.wrap (V : Int) = (V : Int) := by rw [IntKind.wrap_u64]; omega
  have HML : Hid ((cv (putL h at' size true V)).length = 48) := by show _ = _; rw [cv_length, putL_length, hl]
  have HMB : Hid (∀ i, (putL h at' size true V).getD i 0 < 256) := putL_lt h at' size true V hb
  generalize putL h at' size true V = m at *
  simp only [av]
  generalize (cv h).toArray = cs at *
  go_enter Tryd.func90, Tryd.ntmps90
  go_wp2_with (first
    | (go_at_call 52; refine (HG.out _ (Row.below HR.out (below_box _))).mono ?_; rintro e w1 ⟨⟨g, rfl, hown⟩, hb1⟩; have HB1 : Hid (Below w.heap.size w w1) := two_bel hb1; have hcur := two_new hb1; have hrow := hown.row HMB.out; clear hb1 HG HR)
    | (have _t := hcur; refine wpList_copy_splice rfl (.tmp 20) (.tmp 21) 29 29 rfl 5 Tryd.underlying29 Tryd.info5s' _ _ _ _ _ _ rfl rfl (w.heap.size + 1) 0 (List.replicate 48 (.int .u8 0)) 155 hcur (cv m) (by rw [HML.out]; rfl) (fun h0 => ⟨rfl, row_src hrow h0⟩) (by rw [HML.out]; simp) (cv_one _) w.heap.size w HB1.out (by omega) ?_; clear hcur _t hrow hown; intro w2 HG2 hB2; have HF : Hid _ := spliced HG2 (by rw [HML.out]; simp); clear HG2)
    | (have _t := HF; refine wpList_load_row rfl 155 _ rfl (w.heap.size + 1) rfl 155 (cv m).toArray (0, 0) _ HF.out Tryd.underlying155 rfl (by rw [arr_size HML.out]; exact Tryd.info155) ?_)
    | (have _t := HF; refine wpList_store_row rfl 155 _ _ rfl (w.heap.size + 1) (cv m).toArray rfl rfl 155 (cv m).toArray HF.out (by rw [arr_size HML.out]; exact Tryd.info155) rfl (arr_one m) ?_))
  refine bodyPost_ret (v := .agg (cv m).toArray) ?_ rfl ⟨rfl, ?_⟩
  · exact results_arr (p := 8) (by rfl) _ _ (w.heap.size + 1) _ (by rfl) (by rw [arr_size HML.out]; exact Tryd.info155) (setRow_heap _ _ _ _ _ _ HF.out)
  · exact below_setRow (by assumption) (by omega) _
theorem splice_join (Z H B : List Value) (hz : Z.length = H.length + B.length) : splice (splice Z 0 H) H.length B = H ++ B := by
  unfold splice
  simp
  omega
theorem cutA_at {g n : Nat} {cl : List Value} {l : List Nat} (h0 : 0 < cl.length) (hl : cl.length = l.length) (hn : n - 48 = l.length) : cutA (some ⟨g, 0, none⟩) n 48 = some ⟨g, 48, none⟩ := by
  unfold cutA
  rw [if_neg (by omega)]
  rfl
/-- What was there ahead of a block of one's own is there still, whatever is written into that. -/
theorem row_kept {w0 w1 w2 : World} {a : Option Addr} {l : List Nat} {M : Nat} (h0 : Row w0 a l) (h : Row w1 a l) (hb : Below M w1 w2) (hM : w0.heap.size = M) : Row w2 a l := by
  intro i hi
  obtain ⟨b, off, e, hc, hl⟩ := h0 i hi
  obtain ⟨b', off', e', hc', _⟩ := h i hi
  rw [e] at e'
  simp only [Option.some.injEq, Addr.mk.injEq, and_true] at e'
  obtain ⟨rfl, rfl⟩ := e'
  have hlt := World.block_lt_of_cell? _ _ hc
  exact ⟨b, off, e, by rw [hb.cell (by simp only at hlt ⊢; omega)]; exact hc', hl⟩
set_option maxHeartbeats 800000 in
set_option maxRecDepth 100000 in
theorem bjoin_any (h : List Nat) (a : Option Addr) (cap : Nat) (l : List Nat) (w : World) (hl : h.length = 48) (hb : ∀ i, h.getD i 0 < 256) (hr : Row w a l) (hm : l.length ≤ 1000000) :
    Calls Tryd.prog 93 #[av h, .slice a l.length cap] w fun e w' => ∃ g, e = .returned (.slice (some ⟨g, 0, none⟩) (h ++ l).length (h ++ l).length) ∧ Own w.heap.size w' g (h ++ l).length (h ++ l) ∧ Below w.heap.size w w' := by
  obtain ⟨i0, hi, hz0, hz1, hz2⟩ := info_parts Tryd.info5
  have HR : Hid (Row (w.alloc (.cells (cv h).toArray 155)) (some ⟨w.heap.size, 0, none⟩) h) := row_arr w h hb
  have HRL : Hid (Row (w.alloc (.cells (cv h).toArray 155)) a l) := hr.below (below_box _)
  obtain ⟨n, HN⟩ : ∃ n, Hid ((h ++ l).length = n) := ⟨_, rfl⟩
  have hn : n = 48 + l.length := by rw [← HN.out, List.length_append, hl]
  have HH : Hid ((cv h).length = 48) := by show _ = _; rw [cv_length, hl]
  have HL : Hid ((cv l).length = l.length) := cv_length l
  have HA : Hid (cv h ++ cv l = cv (h ++ l)) := (cv_append h l).symm
  have hwn : IntKind.i64.wrap (48 + (l.length : Int)) = (n : Int) := by rw [IntKind.wrap_i64]; omega
  have hw2 : (48 : Int) + (l.length : Int) = (n : Int) := by omega
  rw [HN.out]
  have hn48 : (48 : Int) ≤ (n : Int) := by omega
  have hnm : n ≤ 1000048 := by omega
  have HNL : Hid (n - 48 = l.length) := by show _ = _; omega
  have hB0 : Below w.heap.size w (w.alloc (.cells (cv h).toArray 155)) := below_box _
  clear hr hb hl
  simp only [av]
  generalize (cv h).toArray = cs at *
  generalize hch : cv h = ch at *
  have HCH : Hid (cv h = ch) := hch
  clear hch
  generalize hcl : cv l = cl at *
  have HCL : Hid (cv l = cl) := hcl
  clear hcl hm hn
  have ks : ∀ w', (Instr.slice 29 (.slice (some ⟨w.heap.size + 1, 0, none⟩) n n) (some (.int .i64 48)) none none).run Tryd.prog w' = .ok (.slice (cutA (some ⟨w.heap.size + 1, 0, none⟩) n 48) (n - 48) (n - 48)) w' := fun w' => run_slice_from w' _ n n 48 .i64 (by omega)
  have tok : True := trivial
  have hsz : (w.alloc (.cells cs 155)).heap.size = w.heap.size + 1 := by simp
  go_enter Tryd.func93, Tryd.ntmps93
  go_wp2_with (first
    | (at_make; refine wpList_make_full _ rfl _ _ 29 rfl (w.heap.size + 1) 5 i0 (.int .u8 0) 1 Tryd.underlying29 hi hz0 hz1 .i64 .i64 _ _ n rfl rfl rfl rfl (by rw [hz2]; omega) (by unfold maxLen; omega) (by simp) ?_; intro w1 hown hg; rw [hsz] at hown ⊢; obtain ⟨cur, hcur, hlen⟩ := made_blk hown; have hbel := below_made hg; have HB1 : Hid (Below w.heap.size w w1) := hB0.trans (hbel.mono (by simp)); have HR1 : Hid (Row w1 (some ⟨w.heap.size, 0, none⟩) h) := Row.below HR.out hbel; have HRL1 : Hid (Row w1 a l) := Row.below HRL.out hbel; have HLn : Hid (cur.length = n) := hlen; clear hlen hown hg hbel)
    | (have _t := tok; refine wpList_copy_splice rfl (.tmp 9) (.tmp 10) 29 29 rfl 5 Tryd.underlying29 Tryd.info5s' _ _ _ _ _ _ rfl rfl (w.heap.size + 1) 0 cur 5 hcur ch (by rw [HH.out]; show 48 = min 48 n; omega) (fun h0 => ⟨rfl, by rw [← HCH.out] at h0 ⊢; exact row_src HR1.out h0⟩) (by rw [HH.out, HLn.out]; omega) (by rw [← HCH.out]; exact cv_one _) (w.heap.size + 1) w1 (Below.refl _ _) (Nat.le_refl _) ?_; clear _t tok; intro w2 HG2 hB2; have HRL2 : Hid (Row w2 a l) := row_kept HRL.out HRL1.out hB2 hsz; have HB2 : Hid (Below w.heap.size w w2) := HB1.out.trans (hB2.mono (by omega)); have HLn2 : Hid ((splice cur 0 ch).length = n) := (by show _ = _; rw [length_splice _ _ _ (by rw [HH.out, HLn.out]; omega)]; exact HLn.out); clear hcur hB2)
    | (refine wpList_copy_splice rfl (.tmp 13) (.tmp 14) 29 29 rfl 5 Tryd.underlying29 Tryd.info5s' _ _ _ _ _ _ rfl rfl (w.heap.size + 1) 48 (splice cur 0 ch) 5 HG2.out cl (by rw [HL.out]; show l.length = min l.length (n - 48); rw [HNL.out]; exact (Nat.min_self _).symm) (fun h0 => ⟨cutA_at h0 HL.out HNL.out, by rw [← HCL.out] at h0 ⊢; exact row_src HRL2.out h0⟩) (by rw [HL.out, HLn2.out, ← HNL.out]; omega) (by rw [← HCL.out]; exact cv_one _) w.heap.size w HB2.out (by omega) ?_; intro w3 HG3 hB3))
  go_ret
  refine ⟨w.heap.size + 1, rfl, own_of (by omega) HN.out.symm (by unfold maxLen; omega) ?_ HG3.out, by assumption⟩
  rw [← HA.out]
  have := splice_join cur ch cl (by rw [HLn.out, HH.out, HL.out, ← HNL.out]; omega)
  rw [HH.out] at this
  exact this
end Go.Proofs.YtaooidckmepdeaaDoor
namespace Go.Proofs.YtaooidckmepdeaaDoor
set_option linter.unusedSimpArgs false
set_option linter.unusedVariables false
open Go.RowKit
theorem bdu32 {a : Int} (h : (Lit.int .u32 a).wf = true) : 0 ≤ a ∧ a ≤ 4294967295 := by
  simpa [Lit.wf, IntKind.min, IntKind.max, IntKind.signed, IntKind.bits] using h
theorem xor_lt32 {a b : Nat} (h : a < 4294967296) (h2 : b < 4294967296) : a ^^^ b < 4294967296 := Nat.xor_lt_two_pow (n := 32) h h2
theorem xor32 (a b : Nat) (h : a < 4294967296) (h2 : b < 4294967296) : bits .xor .u32 (a : Int) (b : Int) = ((a ^^^ b : Nat) : Int) := u32_xor_nat a b h h2
theorem drop_cons (l : List Nat) (k : Nat) (h : k < l.length) : l.drop k = l.getD k 0 :: l.drop (k + 1) := by
  rw [List.drop_eq_getElem_cons h]; simp [List.getD, h]
theorem reg_drop (c : Nat) (l : List Nat) (k : Nat) (h : k < l.length) : P.reg c (l.drop k) = P.reg (P.stp c (l.getD k 0)) (l.drop (k + 1)) := by
  rw [drop_cons l k h]; rfl
theorem ones_xor (c : Nat) (h : c < 4294967296) : bits .xor .u32 IntKind.u32.max (c : Int) = ((P.ones ^^^ c : Nat) : Int) := xor32 4294967295 c (by decide) h
theorem Row.bd {w : World} {a : Option Addr} {l : List Nat} (h : Row w a l) : ∀ x, x ∈ l → x < 256 := by
  intro x hx
  obtain ⟨i, hi, rfl⟩ := List.getElem_of_mem hx
  obtain ⟨_, _, _, _, hl⟩ := h i hi
  simpa [List.getD, hi] using hl
theorem more_lt (c : Nat) (l : List Nat) (hc : c < 4294967296) (hl : ∀ x, x ∈ l → x < 256) : P.more c l < 4294967296 :=
  xor_lt32 (by decide) (P.reg_lt l _ (xor_lt32 (by decide) hc) hl)
/-- The table: what becomes of each four digits. -/
def Tab (w : World) : Prop := ∀ i, i < 16 → w.cell? ⟨0, i, none⟩ = some (.int .u32 ((P.shN 4 i : Nat) : Int))
theorem Tab.below {w w' : World} (h : Tab w) (hb : Below w.heap.size w w') : Tab w' := by
  intro i hi
  rw [hb.cell (World.block_lt_of_cell? _ _ (h i hi))]; exact h i hi
theorem Tab.drewN {w : World} (h : Tab w) (n : Nat) : Tab (w.drewN n) := h
theorem nib (c : Nat) : c / 16 ^^^ P.shN 4 (c % 16) = P.shN 4 c := by
  have h1 : c = 2 ^ 4 * (c / 16) ^^^ c % 16 := by
    have hy : c % 16 < 2 ^ 4 := Nat.mod_lt _ (by decide)
    have := Nat.two_pow_add_eq_or_of_lt hy (c / 16)
    have h0 : 2 ^ 4 * (c / 16) + c % 16 = c := Nat.div_add_mod c 16
    rw [this] at h0
    apply Nat.eq_of_testBit_eq
    intro i
    have e := congrArg (·.testBit i) h0
    simp only [Nat.testBit_or] at e
    rw [← e, Nat.testBit_xor, Nat.testBit_two_pow_mul]
    by_cases hi : 4 ≤ i
    · have : (c % 16).testBit i = false := Nat.testBit_lt_two_pow (Nat.lt_of_lt_of_le hy (Nat.pow_le_pow_right (n := 2) (by decide) hi))
      simp [this]
    · simp [hi]
  conv => rhs; rw [h1, P.shN_xor, P.shN_pow]
theorem and15 (c : Nat) (h : c < 4294967296) : bits .and .u32 (c : Int) 15 = ((c % 16 : Nat) : Int) := by
  have := u32_and_nat c 15 h (by decide)
  rw [nat_mask4] at this
  exact this
theorem nibI (c : Nat) (h : c < 4294967296) : bits .xor .u32 ((c : Int) / 16) ((P.shN 4 (c % 16) : Nat) : Int) = ((P.shN 4 c : Nat) : Int) := by
  have := xor32 (c / 16) (P.shN 4 (c % 16)) (by omega) (P.shN_lt _ _ (by omega))
  rw [nib] at this
  exact this
theorem more_any (c : Nat) (a : Option Addr) (cap : Nat) (l : List Nat) (w : World) (ht : Tab w) (hc : c < 4294967296) (hr : Row w a l) (hl : l.length ≤ maxLen) :
    Calls Tryd.prog 91 #[.int .u32 c, .slice a l.length cap] w fun e w' => e = .returned (.int .u32 ((P.more c l : Nat) : Int)) ∧ w' = w := by
  unfold maxLen at hl
  obtain ⟨out, HO⟩ : ∃ out, Hid (P.reg (P.ones ^^^ c) l = out) := ⟨_, rfl⟩
  have HM : Hid (P.more c l = P.ones ^^^ out) := by show _ = _; rw [P.more, HO.out]
  rw [HM.out]
  have ho := ones_xor c hc
  have hol : P.ones ^^^ c < 4294967296 := xor_lt32 (by decide) hc
  generalize P.ones ^^^ c = d at *
  clear HM
  go_enter Tryd.func91, Tryd.ntmps91
  go_wp2
  go_loop [0, 11] (fun v i => ∃ (k C : Nat), k ≤ l.length ∧ v = .int .u32 C ∧ i = .int .i64 k ∧ C < 4294967296 ∧ P.reg C (l.drop k) = out) (fun _ i => l.length - (intOf i).toNat)
  case atStart => exact ⟨0, d, by omega, rfl, rfl, hol, by simpa using HO.out⟩
  case round =>
    obtain ⟨k, C, hk, rfl, rfl, hC, hs⟩ := hrel
    by_cases hlt : k < l.length
    · obtain ⟨b, off, rfl, hcell, hx⟩ := hr k hlt
      rw [reg_drop C l k hlt] at hs
      have hS := P.stp_lt C _ hC hx
      have HS : Hid (P.reg (P.stp C (l.getD k 0)) (l.drop (k + 1)) = out) := hs
      have hltI : (k : Int) < (l.length : Int) := by omega
      clear hs hr
      generalize l.getD k 0 = x at *
      have hX := xor32 C x hC (by omega)
      have hXl := xor_lt32 hC (show x < 4294967296 by omega)
      have HE : Hid (P.stp C x = P.shN 4 (P.shN 4 (C ^^^ x))) := by show _ = _; rw [← P.shN_add]; rfl
      generalize C ^^^ x = y at *
      have hY := nibI y hXl
      have hYl := P.shN_lt 4 y hXl
      have hY2 := and15 y hXl
      have hYc := ht (y % 16) (by omega)
      have hYm : y % 16 < 16 := by omega
      rw [HE.out] at HS hS
      generalize P.shN 4 (y % 16) = t1 at *
      generalize P.shN 4 y = z at *
      generalize y % 16 = y16 at *
      have hZ := nibI z hYl
      have hZ2 := and15 z hYl
      have hZc := ht (z % 16) (by omega)
      have hZm : z % 16 < 16 := by omega
      generalize P.shN 4 (z % 16) = t2 at *
      generalize P.shN 4 z = D at *
      generalize z % 16 = z16 at *
      clear ht HE
      go_wp2
      exact ⟨⟨k + 1, D, by omega, by go_num, by go_num, hS, HS.out⟩, by simp [intOf]; omega⟩
    · obtain rfl : k = l.length := by omega
      have HN : Hid (C = out) := by show _ = _; rw [← hs, List.drop_length]; rfl
      have h2 := ones_xor C hC
      clear hs hr
      go_wp2
      go_ret
      exact ⟨retI (by rw [HN.out]), rfl⟩
theorem sum_any (a : Option Addr) (cap : Nat) (l : List Nat) (w : World) (ht : Tab w) (hr : Row w a l) (hl : l.length ≤ maxLen) :
    Calls Tryd.prog 92 #[.slice a l.length cap] w fun e w' => e = .returned (.int .u32 ((P.sum l : Nat) : Int)) ∧ w' = w := by
  go_enter Tryd.func92, Tryd.ntmps92
  go_wp2_with (go_at_call 91; refine (more_any 0 _ _ _ _ ht (by decide) hr hl).mono ?_; rintro e w' ⟨rfl, rfl⟩)
  go_ret
  exact ⟨rfl, rfl⟩
end Go.Proofs.YtaooidckmepdeaaDoor
namespace Go.Proofs.YtaooidckmepdeaaDoor
set_option linter.unusedSimpArgs false
set_option linter.unusedVariables false
open Go.RowKit
/-- A head. -/
def hd (b l s p q n c f : Nat) : List Nat := lay 8 b ++ (lay 4 l ++ (lay 4 s ++ (lay 8 p ++ (lay 8 q ++ (lay 4 n ++ (lay 4 c ++ lay 8 f))))))
theorem hd_zero : hd 0 0 0 0 0 0 0 0 = List.replicate 48 0 := by decide +kernel
theorem hd_len (b l s p q n c f : Nat) : (hd b l s p q n c f).length = 48 := by simp [hd, lay_len]
theorem hd_mem (b l s p q n c f : Nat) : ∀ x, x ∈ hd b l s p q n c f → x < 256 := by
  intro x hx
  simp only [hd, List.mem_append] at hx
  rcases hx with hx | hx | hx | hx | hx | hx | hx | hx <;> exact lay_mem _ _ x hx
theorem put_at {h A B C : List Nat} (i n V : Nat) (e : h = A ++ (B ++ C)) (hA : A.length = i) (hB : B.length = n) : putL h i n true V = A ++ (lay n V ++ C) := by
  rw [e, ← hA, put_mid A B C n V hB]
theorem hd_base (b l s p q n c f V : Nat) : putL (hd b l s p q n c f) 0 8 true V = hd V l s p q n c f := put_at (A := []) 0 8 V rfl rfl (lay_len _ _)
theorem hd_length (b l s p q n c f V : Nat) : putL (hd b l s p q n c f) 8 4 true V = hd b V s p q n c f := put_at (A := lay 8 b) 8 4 V rfl (lay_len _ _) (lay_len _ _)
theorem hd_sum (b l s p q n c f V : Nat) : putL (hd b l s p q n c f) 12 4 true V = hd b l V p q n c f := by
  rw [put_at (A := lay 8 b ++ lay 4 l) (B := lay 4 s) (C := lay 8 p ++ (lay 8 q ++ (lay 4 n ++ (lay 4 c ++ lay 8 f)))) 12 4 V (by simp [hd]) (by simp [lay_len]) (lay_len _ _)]
  simp [hd]
theorem hd_prod (b l s p q n c f V : Nat) : putL (hd b l s p q n c f) 16 8 true V = hd b l s V q n c f := by
  rw [put_at (A := lay 8 b ++ (lay 4 l ++ lay 4 s)) (B := lay 8 p) (C := lay 8 q ++ (lay 4 n ++ (lay 4 c ++ lay 8 f))) 16 8 V (by simp [hd]) (by simp [lay_len]) (lay_len _ _)]
  simp [hd]
theorem hd_seq (b l s p q n c f V : Nat) : putL (hd b l s p q n c f) 24 8 true V = hd b l s p V n c f := by
  rw [put_at (A := lay 8 b ++ (lay 4 l ++ (lay 4 s ++ lay 8 p))) (B := lay 8 q) (C := lay 4 n ++ (lay 4 c ++ lay 8 f)) 24 8 V (by simp [hd]) (by simp [lay_len]) (lay_len _ _)]
  simp [hd]
theorem hd_span (b l s p q n c f V : Nat) : putL (hd b l s p q n c f) 32 4 true V = hd b l s p q V c f := by
  rw [put_at (A := lay 8 b ++ (lay 4 l ++ (lay 4 s ++ (lay 8 p ++ lay 8 q)))) (B := lay 4 n) (C := lay 4 c ++ lay 8 f) 32 4 V (by simp [hd]) (by simp [lay_len]) (lay_len _ _)]
  simp [hd]
theorem hd_cnt (b l s p q n c f V : Nat) : putL (hd b l s p q n c f) 36 4 true V = hd b l s p q n V f := by
  rw [put_at (A := lay 8 b ++ (lay 4 l ++ (lay 4 s ++ (lay 8 p ++ (lay 8 q ++ lay 4 n))))) (B := lay 4 c) (C := lay 8 f) 36 4 V (by simp [hd]) (by simp [lay_len]) (lay_len _ _)]
  simp [hd]
theorem hd_first (b l s p q n c f V : Nat) : putL (hd b l s p q n c f) 40 8 true V = hd b l s p q n c V := by
  rw [put_at (A := lay 8 b ++ (lay 4 l ++ (lay 4 s ++ (lay 8 p ++ (lay 8 q ++ (lay 4 n ++ lay 4 c)))))) (B := lay 8 f) (C := []) 40 8 V (by simp [hd]) (by simp [lay_len]) (lay_len _ _)]
  simp [hd]
theorem hd_drop (b l s p q n c f : Nat) : (hd b l s p q n c f).drop 16 = midL p q n c f := by
  have : hd b l s p q n c f = headL b l s ++ midL p q n c f := by simp [hd, headL, midL]
  rw [this]
  exact List.drop_left' (head_len _ _ _)
theorem hd_enc (b : Ba) : hd b.base.toNat ((tailL b).length + 4) (P.sum (tailL b)) b.prod.toNat b.seq.toNat b.span.toNat b.rs.length (frs b).toNat ++ bodyL b.rs (frs b) = encBL b := by
  simp [hd, encBL, headL, tailL, midL]
/-- One more number. -/
def Sets (h h' : List Nat) (i n V : Nat) : Prop := ∀ w, Calls Tryd.prog 90 #[av h, .int .i64 (i : Int), .int .i64 (n : Int), .int .i64 (V : Int)] w fun e w' => e = .returned (av h') ∧ Below w.heap.size w w'
theorem sets_of {b l s p q n c f : Nat} {h' : List Nat} {i k V : Nat} (hp : putL (hd b l s p q n c f) i k true V = h') (h1 : 1 ≤ k) (h2 : k ≤ 8) (h3 : i + k ≤ 48) (hV : V ≤ 9223372036854775807) : Sets (hd b l s p q n c f) h' i k V := fun w => by
  rw [← hp]
  exact with_in _ i k V w (hd_len _ _ _ _ _ _ _ _) (lt_mem (hd_mem _ _ _ _ _ _ _ _)) h1 h2 h3 hV
theorem owns_below {w w' : World} {base e size n : Nat} {v : Value} {xs : List Value} (h : w.ownsRow base e size v n xs) (hb : Below w.heap.size w w') : w'.ownsRow base e size v n xs := by
  refine ⟨h.1, ?_⟩
  rcases h.2 with q | ⟨g, cap, cur, e1, hB, hg, r⟩
  · exact .inl q
  · exact .inr ⟨g, cap, cur, e1, hB, (hb.block g (Array.getElem?_eq_some_iff.1 hg).1).trans hg, r⟩
theorem body_take (rs : List Rc) (first : Int) (k : Nat) (h : k < rs.length) : bodyL (rs.take (k + 1)) first = bodyL (rs.take k) first ++ encL (rs.getD k rz) first := by
  rw [List.take_succ_eq_append_getElem h, body_app, body_cons, body_nil, List.append_nil]
  simp [List.getD, h]
/-- A record whose bytes are made. -/
def Enc (f : Nat) (r : Rc) (first : Int) : Prop := ∀ w, Calls Tryd.prog f #[.agg r.cells, .int .i64 first] w fun e w' => ∃ a c, e = .returned (.tuple #[.slice a (encL r first).length c, .int .i64 0]) ∧ Row w' a (encL r first) ∧ (a = none → c = 0) ∧ Below w.heap.size w w'
theorem enc_of {r : Rc} {first : Int} (hc : chk r = 0) (hf : timeB first = true) : Enc 103 r first := fun w => by
  have hE : encE r first = 0 := by simp [encE, hc, hf]
  have hR : encR r first = encL r first := by simp [encR, hE]
  refine (encode_any r first w).mono ?_
  rintro e w' ⟨v, rfl, hown, hb⟩
  rw [hR] at hown
  obtain ⟨a, c, rfl, hr, hn⟩ := owns_sl hown (encL_lt r first hc hf)
  exact ⟨a, c, by rw [hE], hr, hn, hb⟩
set_option maxHeartbeats 800000 in
set_option maxRecDepth 100000 in
theorem body_any (a : Option Addr) (cap : Nat) (rs : List Rc) (first : Int) (w : World) (hr : RRow w a rs) (hl : rs.length ≤ 100) (hc : ∀ r, r ∈ rs → chk r = 0) (hf : timeB first = true) :
    Calls Tryd.prog 89 #[.slice a rs.length cap, .int .i64 first] w fun e w' => ∃ v, e = .returned v ∧ w'.ownsRow w.heap.size 5 1 v (bodyL rs first).length (cv (bodyL rs first)) ∧ Below w.heap.size w w' := by
  obtain ⟨F, HF⟩ : ∃ F : Nat → List Nat, Hid (∀ k, bodyL (rs.take k) first = F k) := ⟨_, fun _ => rfl⟩
  have HS : Hid (∀ k, k < rs.length → F (k + 1) = F k ++ encL (rs.getD k rz) first) := fun k hk => by rw [← HF.out, ← HF.out]; exact body_take rs first k hk
  have hF0 : F 0 = [] := by rw [← HF.out]; rfl
  have HA : Hid (F rs.length = bodyL rs first) := by show _ = _; rw [← HF.out, List.take_length]
  have HFl : Hid (∀ k, (F k).length ≤ 500000) := fun k => by
    rw [← HF.out]
    refine Nat.le_trans (body_len first (fun r hr => hc r (List.mem_of_mem_take hr))) ?_
    rw [List.length_take]
    omega
  have HEn : Hid (∀ k, k < rs.length → Enc 103 (rs.getD k rz) first) := fun k hk => enc_of (hc _ (getD_mem hk)) hf
  have HEL : Hid (∀ k, k < rs.length → (encL (rs.getD k rz) first).length ≤ 5000) := fun k hk => by
    obtain ⟨_, _, _, _, k1, v1, _⟩ := chk_ok (hc _ (getD_mem hk))
    exact encL_len _ first k1 v1
  rw [← HA.out]
  have HR0 : Hid (RRow w a rs) := hr
  clear hc hf hr
  go_enter Tryd.func89, Tryd.ntmps89
  go_wp2_with fail
  go_loopw [4, 11] (fun v i wr => ∃ k : Nat, k ≤ rs.length ∧ i = .int .i64 k ∧ wr.ownsRow w.heap.size 5 1 v (F k).length (cv (F k)) ∧ Below w.heap.size w wr) (fun _ i _ => rs.length - (intOf i).toNat)
  case atStart => exact ⟨0, by omega, rfl, by rw [hF0]; exact World.ownsRow_nil _ _ _ _, Below.refl _ _⟩
  case round =>
    obtain ⟨k, hk, rfl, hown, hb⟩ := hrel
    by_cases hlt : k < rs.length
    · have hltI : (k : Int) < (rs.length : Int) := by omega
      have HE := HEn.out k hlt
      have HL : Hid (F (k + 1) = F k ++ encL (rs.getD k rz) first) := HS.out k hlt
      have h5 := HFl.out k
      have h6 := HEL.out k hlt
      obtain ⟨b, off, rfl, z0, z1, z2, z3, z4, z5⟩ := (RRow.below HR0.out hb) k hlt
      have hbz := World.block_lt_of_cell? _ _ z0
      simp only at hbz
      have HBB : Hid (∀ cs, Below wr.heap.size wr (wr.alloc (.cells cs 87))) := fun cs => below_box _
      have hz3 : w.heap.size ≤ wr.heap.size := hb.size
      unfold Enc at HE
      generalize rs.getD k rz = r at *
      generalize encL r first = L at *
      have HEn2 : Hid _ := HE
      clear HE
      obtain ⟨hk', kk, hv, v, t, o⟩ := r
      simp only at z0 z1 z2 z3 z4 z5
      simp only [Rc.cells] at HEn2
      go_wp2_with (first
        | (go_at_call 103; refine (HEn2.out _).mono ?_; rintro e w4 ⟨a4, c4, rfl, hr4, hn4, hb4⟩; have hown4 := owns_below hown ((HBB.out _).trans (hb4.mono (by simp))); have hbel4 := hb.trans (((HBB.out _).trans (hb4.mono (by simp))).mono hz3); have HZ4 := hbel4.size; clear hb4)
        | (at_builtin; refine wpList_append_row (by rfl) _ _ rfl w.heap.size w _ _ _ rfl hown4 hbel4 HZ4 a4 c4 L rfl hr4 hn4 (by omega) ?_; intro v5 w5 hown5 hbel5))
      refine ⟨⟨k + 1, by omega, by go_num, by rw [HL.out, List.length_append, cv_append]; exact hown5, hbel5⟩, by simp [intOf]; omega⟩
    · obtain rfl : k = rs.length := by omega
      go_wp2_with fail
      go_ret
      exact ⟨_, rfl, hown, hb⟩
end Go.Proofs.YtaooidckmepdeaaDoor
namespace Go.Proofs.YtaooidckmepdeaaDoor
set_option linter.unusedSimpArgs false
set_option linter.unusedVariables false
open Go.RowKit
/-- The batch in its box. -/
def bcells (b : Ba) (a : Option Addr) (cap : Nat) : Array Value := #[.int .i64 b.base, .int .i64 b.span, .int .i64 b.prod, .int .i64 b.seq, .slice a b.rs.length cap]
structure BxS (w : World) (cs : Array Value) (x : World) : Prop where
  box : x.heap[w.heap.size]? = some (.cells cs 85 (0, 0))
  bel : Below w.heap.size w x
theorem BxS.new (w : World) (cs : Array Value) : BxS w cs (w.alloc (.cells cs 85)) := ⟨heap_alloc_new w _, below_box _⟩
theorem BxS.below {w x y : World} {cs : Array Value} (h : BxS w cs x) (hb : Below x.heap.size x y) : BxS w cs y :=
  ⟨(hb.block _ (Array.getElem?_eq_some_iff.1 h.box).1).trans h.box, h.bel.trans (hb.mono h.bel.size)⟩
theorem BxS.cells {w x : World} {b : Ba} {a : Option Addr} {cap : Nat} (h : BxS w (bcells b a cap) x) :
    x.cell? ⟨w.heap.size, 0, none⟩ = some (.int .i64 b.base) ∧ x.cell? ⟨w.heap.size, 1, none⟩ = some (.int .i64 b.span) ∧ x.cell? ⟨w.heap.size, 2, none⟩ = some (.int .i64 b.prod) ∧ x.cell? ⟨w.heap.size, 3, none⟩ = some (.int .i64 b.seq) ∧ x.cell? ⟨w.heap.size, 4, none⟩ = some (.slice a b.rs.length cap) ∧ w.heap.size < x.heap.size := by
  have hc : ∀ j, x.cell? ⟨w.heap.size, j, none⟩ = (bcells b a cap)[j]? := fun j => cell_of_row _ w.heap.size j _ 85 (0, 0) h.box
  exact ⟨by rw [hc]; rfl, by rw [hc]; rfl, by rw [hc]; rfl, by rw [hc]; rfl, by rw [hc]; rfl, (Array.getElem?_eq_some_iff.1 h.box).1⟩
end Go.Proofs.YtaooidckmepdeaaDoor
namespace Go.Proofs.YtaooidckmepdeaaDoor
set_option linter.unusedSimpArgs false
set_option linter.unusedVariables false
open Go.RowKit
/-- And the head's array, the records' bytes. -/
structure EncS (w : World) (cs : Array Value) (H : Nat) (h : List Nat) (ra : Option Addr) (L : List Nat) (x : World) : Prop where
  bx : BxS w cs x
  arr : x.heap[H]? = some (.cells (cv h).toArray 155 (0, 0))
  row : Row x ra L
  tab : Tab x
  lt : w.heap.size < H
  rlt : ∀ i, i < L.length → ∃ ad, ra = some ad ∧ ad.block < H
theorem EncS.below {w x y : World} {cs : Array Value} {H : Nat} {h L : List Nat} {ra : Option Addr} (s : EncS w cs H h ra L x) (hb : Below x.heap.size x y) : EncS w cs H h ra L y :=
  ⟨s.bx.below hb, (hb.block _ (Array.getElem?_eq_some_iff.1 s.arr).1).trans s.arr, s.row.below hb, s.tab.below hb, s.lt, s.rlt⟩
theorem EncS.store {w x : World} {cs : Array Value} {H : Nat} {h L : List Nat} {ra : Option Addr} (s : EncS w cs H h ra L x) (h' : List Nat) : EncS w cs H h' ra L (x.setRow H (cv h').toArray) := by
  have ho : ∀ k, k ≠ H → (x.setRow H (cv h').toArray).heap[k]? = x.heap[k]? := fun k hk => setRow_other x H k _ hk
  have hlt := s.lt
  have hcell : ∀ b o, b < H → (x.setRow H (cv h').toArray).cell? ⟨b, o, none⟩ = x.cell? ⟨b, o, none⟩ := fun b o hb => (below_setRow (Below.refl H x) (Nat.le_refl H) _).cell hb
  refine ⟨⟨by rw [ho _ (by omega)]; exact s.bx.box, below_setRow s.bx.bel (by omega) _⟩, setRow_heap _ _ _ _ _ _ s.arr, ?_, ?_, hlt, s.rlt⟩
  · intro i hi
    obtain ⟨b, off, e, hc, hl⟩ := s.row i hi
    obtain ⟨ad, e2, hb⟩ := s.rlt i hi
    rw [e] at e2
    injection e2 with e2
    subst e2
    exact ⟨b, off, e, by rw [hcell _ _ hb]; exact hc, hl⟩
  · intro i hi
    rw [hcell 0 i (by omega)]
    exact s.tab i hi
theorem EncS.arow {w x : World} {cs : Array Value} {H : Nat} {h L : List Nat} {ra : Option Addr} (s : EncS w cs H h ra L x) (hb : ∀ i, h.getD i 0 < 256) : Row x (some ⟨H, 0, none⟩) h := by
  intro i hi
  refine ⟨H, 0, rfl, ?_, hb i⟩
  rw [cell_of_row _ H (0 + i) (cv h).toArray 155 (0, 0) s.arr]
  simpa using cv_get h i hi
theorem row_from {w : World} {H : Nat} {h : List Nat} (k : Nat) (hr : Row w (some ⟨H, 0, none⟩) h) : Row w (some ⟨H, k, none⟩) (h.drop k) := by
  intro i hi
  rw [List.length_drop] at hi
  obtain ⟨b, off, e, hc, hl⟩ := hr (k + i) (by omega)
  simp only [Option.some.injEq, Addr.mk.injEq, and_true] at e
  obtain ⟨rfl, rfl⟩ := e
  have eg : (h.drop k).getD i 0 = h.getD (k + i) 0 := by simp [List.getD]
  rw [eg]
  exact ⟨H, k, rfl, by rw [Nat.zero_add] at hc; exact hc, hl⟩
theorem EncS.new {w x : World} {cs : Array Value} {h L : List Nat} {ra : Option Addr} (hb : BxS w cs x) (hr : Row x ra L) (ht : Tab x) : EncS w cs x.heap.size h ra L (x.alloc (.cells (cv h).toArray 155)) := by
  refine ⟨hb.below (below_box _), heap_alloc_new x _, hr.below (below_box _), ht.below (below_box _), (Array.getElem?_eq_some_iff.1 hb.box).1, ?_⟩
  intro i hi
  obtain ⟨b, off, rfl, hc, _⟩ := hr i hi
  exact ⟨⟨b, off, none⟩, rfl, by have := World.block_lt_of_cell? _ _ hc; exact this⟩
set_option maxHeartbeats 4000000 in
set_option maxRecDepth 100000 in
theorem bencode_ok (b : Ba) (a : Option Addr) (cap : Nat) (w : World) (hr : RRow w a b.rs) (hi : In64B b) (ht : Tab w) (h : chkB b = 0) :
    Calls Tryd.prog 83 #[bav b a cap] w fun e w' => ∃ g, e = .returned (.tuple #[.slice (some ⟨g, 0, none⟩) (encBL b).length (encBL b).length, .int .i64 0]) ∧ Own w.heap.size w' g (encBL b).length (encBL b) ∧ Below w.heap.size w w' := by
  obtain ⟨hw, h6⟩ := chk_parts h
  obtain ⟨⟨b0, b1⟩, ⟨s0, s1⟩, q0, q1, r0, hri, hc⟩ := wr_ok hw
  obtain ⟨f0, f1⟩ := (time_iff _).1 (wr_time hw)
  have hft := wr_time hw
  have hlen := (wr_len hw).1
  obtain ⟨i0, i1⟩ := hi
  obtain ⟨bn, ebn⟩ := Int.eq_ofNat_of_zero_le b0
  obtain ⟨sn, esn⟩ := Int.eq_ofNat_of_zero_le (show 0 ≤ b.span by omega)
  obtain ⟨pn, epn⟩ := Int.eq_ofNat_of_zero_le q0
  obtain ⟨qn, eqn⟩ := Int.eq_ofNat_of_zero_le q1
  obtain ⟨fn, efn⟩ := Int.eq_ofNat_of_zero_le f0
  have HW : Hid (∀ w, RRow w a b.rs → Calls Tryd.prog 88 #[bav b a cap] w fun e w' => e = .returned (.int .i64 0) ∧ Below w.heap.size w w') := by
    intro w hr
    have := wrong_any b a cap w hr (by unfold maxLen; omega)
    rw [hw] at this
    exact this
  have HBO : Hid (∀ w, RRow w a b.rs → Calls Tryd.prog 89 #[.slice a b.rs.length cap, .int .i64 (frs b)] w fun e w' => ∃ v, e = .returned v ∧ w'.ownsRow w.heap.size 5 1 v (bodyL b.rs (frs b)).length (cv (bodyL b.rs (frs b))) ∧ Below w.heap.size w w') := fun w hr => body_any a cap b.rs (frs b) w hr hlen hc hft
  have HR4 : Hid (∀ w, RRow w a b.rs → ∃ x off, a = some ⟨x, off, none⟩ ∧ w.cell? ⟨x, off + 4, none⟩ = some (.int .i64 (frs b))) := by
    intro w hr
    obtain ⟨x, off, e, _, _, _, _, z4, _⟩ := hr 0 r0
    rw [Nat.zero_mul, Nat.add_zero] at z4
    exact ⟨x, off, e, z4⟩
  have HLB : Hid (∀ i, (bodyL b.rs (frs b)).getD i 0 < 256) := lt_mem (body_mem hft hc)
  have hencE := hd_enc b
  have htl := tail_len b
  have htm : ∀ x, x ∈ tailL b → x < 256 := fun x hx => encB_mem hw x (by unfold encBL; exact List.mem_append_right _ hx)
  have hsl := sum_lt (tailL b) htm
  have htd : tailL b = midL b.prod.toNat b.seq.toNat b.span.toNat b.rs.length (frs b).toNat ++ bodyL b.rs (frs b) := rfl
  obtain ⟨ln, eln⟩ : ∃ ln, Hid ((tailL b).length + 4 = ln) := ⟨_, rfl⟩
  obtain ⟨un, eun⟩ : ∃ un, Hid (P.sum (tailL b) = un) := ⟨_, rfl⟩
  rw [eln.out, eun.out] at hencE
  have hln : ln = 36 + (bodyL b.rs (frs b)).length := by rw [← eln.out]; omega
  have hmm : P.more (P.sum (midL b.prod.toNat b.seq.toNat b.span.toNat b.rs.length (frs b).toNat)) (bodyL b.rs (frs b)) = un := by
    rw [← eun.out, htd]
    exact P.more_append 0 _ _
  have hsm : P.sum (midL b.prod.toNat b.seq.toNat b.span.toNat b.rs.length (frs b).toNat) < 4294967296 := sum_lt _ (fun x hx => htm x (by rw [htd]; exact List.mem_append_left _ hx))
  rw [eun.out] at hsl
  have e1 : b.base.toNat = bn := by omega
  have e2 : b.span.toNat = sn := by omega
  have e3 : b.prod.toNat = pn := by omega
  have e4 : b.seq.toNat = qn := by omega
  have e5 : (frs b).toNat = fn := by omega
  rw [e1, e2, e3, e4, e5] at hencE
  rw [e2, e3, e4, e5] at hmm hsm
  have hL6 : (bodyL b.rs (frs b)).length ≤ 5952 := by omega
  rw [← hencE]
  generalize bodyL b.rs (frs b) = L at *
  rw [efn] at HBO HR4
  have f1 : (fn : Int) ≤ 1125899906842624 := by rw [← efn]; exact f1
  clear hencE efn htl htm htd eln eun hw h6 hri hc hft e1 e2 e3 e4 e5 h
  obtain ⟨base, span, prod, seq, rs⟩ := b
  simp only at *
  subst ebn esn epn eqn
  simp only [bav] at HW ⊢
  have HZ0 : Hid ((cv (hd 0 0 0 0 0 0 0 0)).toArray.size = 48) := arr_size (by rw [cv_length, hd_len])
  have HS0 : Hid ((Tryd.prog.info? 155).map (·.size) = some (cv (hd 0 0 0 0 0 0 0 0)).toArray.size) := by show _ = _; rw [HZ0.out]; exact Tryd.info155
  have HZ1 : Hid ((cv (hd bn 0 0 0 0 0 0 0)).toArray.size = 48) := arr_size (by rw [cv_length, hd_len])
  have HS1 : Hid ((Tryd.prog.info? 155).map (·.size) = some (cv (hd bn 0 0 0 0 0 0 0)).toArray.size) := by show _ = _; rw [HZ1.out]; exact Tryd.info155
  have HZ2 : Hid ((cv (hd bn ln 0 0 0 0 0 0)).toArray.size = 48) := arr_size (by rw [cv_length, hd_len])
  have HS2 : Hid ((Tryd.prog.info? 155).map (·.size) = some (cv (hd bn ln 0 0 0 0 0 0)).toArray.size) := by show _ = _; rw [HZ2.out]; exact Tryd.info155
  have HZ3 : Hid ((cv (hd bn ln 0 pn 0 0 0 0)).toArray.size = 48) := arr_size (by rw [cv_length, hd_len])
  have HS3 : Hid ((Tryd.prog.info? 155).map (·.size) = some (cv (hd bn ln 0 pn 0 0 0 0)).toArray.size) := by show _ = _; rw [HZ3.out]; exact Tryd.info155
  have HZ4 : Hid ((cv (hd bn ln 0 pn qn 0 0 0)).toArray.size = 48) := arr_size (by rw [cv_length, hd_len])
  have HS4 : Hid ((Tryd.prog.info? 155).map (·.size) = some (cv (hd bn ln 0 pn qn 0 0 0)).toArray.size) := by show _ = _; rw [HZ4.out]; exact Tryd.info155
  have HZ5 : Hid ((cv (hd bn ln 0 pn qn sn 0 0)).toArray.size = 48) := arr_size (by rw [cv_length, hd_len])
  have HS5 : Hid ((Tryd.prog.info? 155).map (·.size) = some (cv (hd bn ln 0 pn qn sn 0 0)).toArray.size) := by show _ = _; rw [HZ5.out]; exact Tryd.info155
  have HZ6 : Hid ((cv (hd bn ln 0 pn qn sn rs.length 0)).toArray.size = 48) := arr_size (by rw [cv_length, hd_len])
  have HS6 : Hid ((Tryd.prog.info? 155).map (·.size) = some (cv (hd bn ln 0 pn qn sn rs.length 0)).toArray.size) := by show _ = _; rw [HZ6.out]; exact Tryd.info155
  have HZ7 : Hid ((cv (hd bn ln 0 pn qn sn rs.length fn)).toArray.size = 48) := arr_size (by rw [cv_length, hd_len])
  have HS7 : Hid ((Tryd.prog.info? 155).map (·.size) = some (cv (hd bn ln 0 pn qn sn rs.length fn)).toArray.size) := by show _ = _; rw [HZ7.out]; exact Tryd.info155
  have HZ8 : Hid ((cv (hd bn ln un pn qn sn rs.length fn)).toArray.size = 48) := arr_size (by rw [cv_length, hd_len])
  have HS8 : Hid ((Tryd.prog.info? 155).map (·.size) = some (cv (hd bn ln un pn qn sn rs.length fn)).toArray.size) := by show _ = _; rw [HZ8.out]; exact Tryd.info155
  have HX0 : Hid (∀ w, Calls Tryd.prog 90 #[.agg (cv (hd 0 0 0 0 0 0 0 0)).toArray, .int .i64 0, .int .i64 8, .int .i64 (bn : Nat)] w fun e w' => e = .returned (.agg (cv (hd bn 0 0 0 0 0 0 0)).toArray) ∧ Below w.heap.size w w') := sets_of (i := 0) (k := 8) (V := bn) (hd_base 0 0 0 0 0 0 0 0 bn) (by decide) (by decide) (by decide) (by omega)
  have HX1 : Hid (∀ w, Calls Tryd.prog 90 #[.agg (cv (hd bn 0 0 0 0 0 0 0)).toArray, .int .i64 8, .int .i64 4, .int .i64 (ln : Nat)] w fun e w' => e = .returned (.agg (cv (hd bn ln 0 0 0 0 0 0)).toArray) ∧ Below w.heap.size w w') := sets_of (i := 8) (k := 4) (V := ln) (hd_length bn 0 0 0 0 0 0 0 ln) (by decide) (by decide) (by decide) (by omega)
  have HX2 : Hid (∀ w, Calls Tryd.prog 90 #[.agg (cv (hd bn ln 0 0 0 0 0 0)).toArray, .int .i64 16, .int .i64 8, .int .i64 (pn : Nat)] w fun e w' => e = .returned (.agg (cv (hd bn ln 0 pn 0 0 0 0)).toArray) ∧ Below w.heap.size w w') := sets_of (i := 16) (k := 8) (V := pn) (hd_prod bn ln 0 0 0 0 0 0 pn) (by decide) (by decide) (by decide) (by omega)
  have HX3 : Hid (∀ w, Calls Tryd.prog 90 #[.agg (cv (hd bn ln 0 pn 0 0 0 0)).toArray, .int .i64 24, .int .i64 8, .int .i64 (qn : Nat)] w fun e w' => e = .returned (.agg (cv (hd bn ln 0 pn qn 0 0 0)).toArray) ∧ Below w.heap.size w w') := sets_of (i := 24) (k := 8) (V := qn) (hd_seq bn ln 0 pn 0 0 0 0 qn) (by decide) (by decide) (by decide) (by omega)
  have HX4 : Hid (∀ w, Calls Tryd.prog 90 #[.agg (cv (hd bn ln 0 pn qn 0 0 0)).toArray, .int .i64 32, .int .i64 4, .int .i64 (sn : Nat)] w fun e w' => e = .returned (.agg (cv (hd bn ln 0 pn qn sn 0 0)).toArray) ∧ Below w.heap.size w w') := sets_of (i := 32) (k := 4) (V := sn) (hd_span bn ln 0 pn qn 0 0 0 sn) (by decide) (by decide) (by decide) (by omega)
  have HX5 : Hid (∀ w, Calls Tryd.prog 90 #[.agg (cv (hd bn ln 0 pn qn sn 0 0)).toArray, .int .i64 36, .int .i64 4, .int .i64 (rs.length : Nat)] w fun e w' => e = .returned (.agg (cv (hd bn ln 0 pn qn sn rs.length 0)).toArray) ∧ Below w.heap.size w w') := sets_of (i := 36) (k := 4) (V := rs.length) (hd_cnt bn ln 0 pn qn sn 0 0 rs.length) (by decide) (by decide) (by decide) (by omega)
  have HX6 : Hid (∀ w, Calls Tryd.prog 90 #[.agg (cv (hd bn ln 0 pn qn sn rs.length 0)).toArray, .int .i64 40, .int .i64 8, .int .i64 (fn : Nat)] w fun e w' => e = .returned (.agg (cv (hd bn ln 0 pn qn sn rs.length fn)).toArray) ∧ Below w.heap.size w w') := sets_of (i := 40) (k := 8) (V := fn) (hd_first bn ln 0 pn qn sn rs.length 0 fn) (by decide) (by decide) (by decide) (by omega)
  have HX7 : Hid (∀ w, Calls Tryd.prog 90 #[.agg (cv (hd bn ln 0 pn qn sn rs.length fn)).toArray, .int .i64 12, .int .i64 4, .int .i64 (un : Nat)] w fun e w' => e = .returned (.agg (cv (hd bn ln un pn qn sn rs.length fn)).toArray) ∧ Below w.heap.size w w') := sets_of (i := 12) (k := 4) (V := un) (hd_sum bn ln 0 pn qn sn rs.length fn un) (by decide) (by decide) (by decide) (by omega)
  have HSU : Hid (∀ w H, Tab w → Row w (some ⟨H, 0, none⟩) (hd bn ln 0 pn qn sn rs.length fn) → Calls Tryd.prog 92 #[.slice (some ⟨H, 16, none⟩) 32 32] w fun e w' => e = .returned (.int .u32 ((P.sum (midL pn qn sn rs.length fn) : Nat) : Int)) ∧ w' = w) := by
    intro w H ht hr
    have h2 := row_from 16 hr
    rw [hd_drop] at h2
    have := sum_any (some ⟨H, 16, none⟩) 32 _ w ht h2 (by rw [mid_len]; unfold maxLen; omega)
    rw [mid_len] at this
    exact this
  generalize P.sum (midL pn qn sn rs.length fn) = s7 at *
  have HMO : Hid (∀ w a k, Tab w → Row w a L → Calls Tryd.prog 91 #[.int .u32 (s7 : Nat), .slice a L.length k] w fun e w' => e = .returned (.int .u32 ((un : Nat) : Int)) ∧ w' = w) := by
    intro w a k ht hr
    have := more_any s7 a k L w ht hsm hr (by unfold maxLen; omega)
    rw [hmm] at this
    exact this
  have HHB : Hid (∀ i, (hd bn ln 0 pn qn sn rs.length fn).getD i 0 < 256) := lt_mem (hd_mem _ _ _ _ _ _ _ _)
  have HJ : Hid (∀ w a k, Row w a L → Calls Tryd.prog 93 #[.agg (cv (hd bn ln un pn qn sn rs.length fn)).toArray, .slice a L.length k] w fun e w' => ∃ g, e = .returned (.slice (some ⟨g, 0, none⟩) ((hd bn ln un pn qn sn rs.length fn) ++ L).length ((hd bn ln un pn qn sn rs.length fn) ++ L).length) ∧ Own w.heap.size w' g ((hd bn ln un pn qn sn rs.length fn) ++ L).length ((hd bn ln un pn qn sn rs.length fn) ++ L) ∧ Below w.heap.size w w') := fun w a k hr => bjoin_any _ a k L w (hd_len _ _ _ _ _ _ _ _) (lt_mem (hd_mem _ _ _ _ _ _ _ _)) hr (by omega)
  have h00 := hd_zero
  generalize (hd bn ln un pn qn sn rs.length fn) = h8 at *
  generalize (hd bn ln 0 pn qn sn rs.length fn) = h7 at *
  generalize (hd bn ln 0 pn qn sn rs.length 0) = h6 at *
  generalize (hd bn ln 0 pn qn sn 0 0) = h5 at *
  generalize (hd bn ln 0 pn qn 0 0 0) = h4 at *
  generalize (hd bn ln 0 pn 0 0 0 0) = h3 at *
  generalize (hd bn ln 0 0 0 0 0 0) = h2 at *
  generalize (hd bn 0 0 0 0 0 0 0) = h1 at *
  generalize (hd 0 0 0 0 0 0 0 0) = h0 at *
  subst h00
  generalize h8 ++ L = M at *
  have hw1 : IntKind.i64.wrap (48 + (L.length : Int)) = 48 + (L.length : Int) := by rw [IntKind.wrap_i64]; omega
  have hw2 : IntKind.i64.wrap (48 + (L.length : Int) - 12) = (ln : Int) := by rw [IntKind.wrap_i64]; omega
  have hw4 : IntKind.i64.wrap (un : Int) = (un : Int) := by rw [IntKind.wrap_i64]; omega
  have hLI : 48 + (L.length : Int) ≤ 6000 := by omega
  have hrI : (0 : Int) < (rs.length : Int) := by omega
  have HR0 : Hid (RRow w a rs) := hr
  have HT : Hid (Tab w) := ht
  obtain ⟨rb, roff, era, _⟩ := HR4.out w hr
  have hrb : rb < w.heap.size := by
    obtain ⟨x, off, e, z0, _⟩ := hr 0 r0
    rw [era] at e
    simp only [Option.some.injEq, Addr.mk.injEq, and_true] at e
    obtain ⟨rfl, rfl⟩ := e
    have := World.block_lt_of_cell? _ _ z0
    simpa using this
  subst era
  have HY4 : Hid (∀ x, Below w.heap.size w x → x.cell? ⟨rb, roff + 4, none⟩ = some (.int .i64 (fn : Int))) := by
    intro x hb
    obtain ⟨y, off, e, h⟩ := HR4.out x (RRow.below HR0.out hb)
    simp only [Option.some.injEq, Addr.mk.injEq, and_true] at e
    obtain ⟨rfl, rfl⟩ := e
    exact h
  clear hr ht hsm hmm hln b0 q0 q1 f0 s0 HR4
  go_enter Tryd.func83, Tryd.ntmps83
  go_wp2_with (first
    | (go_at_call 88; refine (HW.out _ (RRow.below HR0.out (below_box _))).mono ?_; rintro e w1 ⟨rfl, hb1⟩; have HB1 : Hid (BxS w (bcells ⟨(bn : Int), (sn : Int), (pn : Int), (qn : Int), rs⟩ (some ⟨rb, roff, none⟩) cap) w1) := BxS.below (BxS.new w _) hb1; have HRR : Hid (RRow w1 (some ⟨rb, roff, none⟩) rs) := RRow.below (RRow.below HR0.out (below_box _)) hb1; have HT1 : Hid (Tab w1) := Tab.below (Tab.below HT.out (below_box _)) hb1; obtain ⟨c0, c1, c2, c3, c4, cz⟩ := BxS.cells HB1.out; simp only at c0 c1 c2 c3 c4; have y0 := HY4.out _ HB1.out.bel; clear hb1)
    | (go_at_call 89; refine (HBO.out _ HRR.out).mono ?_; rintro e w2 ⟨v2, rfl, hown2, hb2⟩; obtain ⟨a2, k2, rfl, hr2, hn2⟩ := owns_sl hown2 HLB.out; have HB2 : Hid (BxS w (bcells ⟨(bn : Int), (sn : Int), (pn : Int), (qn : Int), rs⟩ (some ⟨rb, roff, none⟩) cap) w2) := BxS.below HB1.out hb2; have HE0z : Hid (EncS w (bcells ⟨(bn : Int), (sn : Int), (pn : Int), (qn : Int), rs⟩ (some ⟨rb, roff, none⟩) cap) w2.heap.size (List.replicate 48 0) a2 L (w2.alloc (.cells (cv (List.replicate 48 0)).toArray 155))) := EncS.new HB2.out hr2 (Tab.below HT1.out hb2); clear c0 c1 c2 c3 c4 cz HRR HT1 hown2 hb2 y0)
    | (have _t := HE0z; generalize hx0 : World.alloc w2 (Obj.cells #[.int .u8 0, .int .u8 0, .int .u8 0, .int .u8 0, .int .u8 0, .int .u8 0, .int .u8 0, .int .u8 0, .int .u8 0, .int .u8 0, .int .u8 0, .int .u8 0, .int .u8 0, .int .u8 0, .int .u8 0, .int .u8 0, .int .u8 0, .int .u8 0, .int .u8 0, .int .u8 0, .int .u8 0, .int .u8 0, .int .u8 0, .int .u8 0, .int .u8 0, .int .u8 0, .int .u8 0, .int .u8 0, .int .u8 0, .int .u8 0, .int .u8 0, .int .u8 0, .int .u8 0, .int .u8 0, .int .u8 0, .int .u8 0, .int .u8 0, .int .u8 0, .int .u8 0, .int .u8 0, .int .u8 0, .int .u8 0, .int .u8 0, .int .u8 0, .int .u8 0, .int .u8 0, .int .u8 0, .int .u8 0] 155) = x0; have HE0 : Hid (EncS w (bcells ⟨(bn : Int), (sn : Int), (pn : Int), (qn : Int), rs⟩ (some ⟨rb, roff, none⟩) cap) w2.heap.size (List.replicate 48 0) a2 L x0) := (by rw [← hx0]; exact HE0z.out); clear HE0z hx0 _t; obtain ⟨c0, c1, c2, c3, c4, cz⟩ := BxS.cells HE0.out.bx; simp only at c0 c1 c2 c3 c4; refine wpList_load_row rfl 155 _ rfl w2.heap.size rfl 155 (cv (List.replicate 48 0)).toArray (0, 0) _ HE0.out.arr Tryd.underlying155 rfl HS0.out ?_)
    | (go_at_call 90; have _t := HE0; refine (HX0.out _).mono ?_; rintro e y1 ⟨rfl, hb⟩; have HF0 : Hid (EncS w (bcells ⟨(bn : Int), (sn : Int), (pn : Int), (qn : Int), rs⟩ (some ⟨rb, roff, none⟩) cap) w2.heap.size (List.replicate 48 0) a2 L y1) := EncS.below HE0.out hb; clear hb HE0 _t c0 c1 c2 c3 c4 cz)
    | (have _t := HF0; refine wpList_store_row rfl 155 _ _ rfl w2.heap.size (cv h1).toArray rfl rfl 155 (cv (List.replicate 48 0)).toArray HF0.out.arr HS1.out (by rw [HZ0.out, HZ1.out]) (arr_one h1) ?_; have HE : Hid (EncS w (bcells ⟨(bn : Int), (sn : Int), (pn : Int), (qn : Int), rs⟩ (some ⟨rb, roff, none⟩) cap) w2.heap.size h1 a2 L (World.setRow y1 w2.heap.size (cv h1).toArray)) := EncS.store HF0.out h1; clear HF0 _t; generalize World.setRow y1 w2.heap.size (cv h1).toArray = x1 at HE ⊢; have HE1 : Hid (EncS w (bcells ⟨(bn : Int), (sn : Int), (pn : Int), (qn : Int), rs⟩ (some ⟨rb, roff, none⟩) cap) w2.heap.size h1 a2 L x1) := HE; clear HE; obtain ⟨c0, c1, c2, c3, c4, cz⟩ := BxS.cells HE1.out.bx; simp only at c0 c1 c2 c3 c4)
    | (have _t := HE1; refine wpList_load_row rfl 155 _ rfl w2.heap.size rfl 155 (cv h1).toArray (0, 0) _ HE1.out.arr Tryd.underlying155 rfl HS1.out ?_)
    | (go_at_call 90; have _t := HE1; refine (HX1.out _).mono ?_; rintro e y2 ⟨rfl, hb⟩; have HF1 : Hid (EncS w (bcells ⟨(bn : Int), (sn : Int), (pn : Int), (qn : Int), rs⟩ (some ⟨rb, roff, none⟩) cap) w2.heap.size h1 a2 L y2) := EncS.below HE1.out hb; clear hb HE1 _t c0 c1 c2 c3 c4 cz)
    | (have _t := HF1; refine wpList_store_row rfl 155 _ _ rfl w2.heap.size (cv h2).toArray rfl rfl 155 (cv h1).toArray HF1.out.arr HS2.out (by rw [HZ1.out, HZ2.out]) (arr_one h2) ?_; have HE : Hid (EncS w (bcells ⟨(bn : Int), (sn : Int), (pn : Int), (qn : Int), rs⟩ (some ⟨rb, roff, none⟩) cap) w2.heap.size h2 a2 L (World.setRow y2 w2.heap.size (cv h2).toArray)) := EncS.store HF1.out h2; clear HF1 _t; generalize World.setRow y2 w2.heap.size (cv h2).toArray = x2 at HE ⊢; have HE2 : Hid (EncS w (bcells ⟨(bn : Int), (sn : Int), (pn : Int), (qn : Int), rs⟩ (some ⟨rb, roff, none⟩) cap) w2.heap.size h2 a2 L x2) := HE; clear HE; obtain ⟨c0, c1, c2, c3, c4, cz⟩ := BxS.cells HE2.out.bx; simp only at c0 c1 c2 c3 c4)
    | (have _t := HE2; refine wpList_load_row rfl 155 _ rfl w2.heap.size rfl 155 (cv h2).toArray (0, 0) _ HE2.out.arr Tryd.underlying155 rfl HS2.out ?_)
    | (go_at_call 90; have _t := HE2; refine (HX2.out _).mono ?_; rintro e y3 ⟨rfl, hb⟩; have HF2 : Hid (EncS w (bcells ⟨(bn : Int), (sn : Int), (pn : Int), (qn : Int), rs⟩ (some ⟨rb, roff, none⟩) cap) w2.heap.size h2 a2 L y3) := EncS.below HE2.out hb; clear hb HE2 _t c0 c1 c2 c3 c4 cz)
    | (have _t := HF2; refine wpList_store_row rfl 155 _ _ rfl w2.heap.size (cv h3).toArray rfl rfl 155 (cv h2).toArray HF2.out.arr HS3.out (by rw [HZ2.out, HZ3.out]) (arr_one h3) ?_; have HE : Hid (EncS w (bcells ⟨(bn : Int), (sn : Int), (pn : Int), (qn : Int), rs⟩ (some ⟨rb, roff, none⟩) cap) w2.heap.size h3 a2 L (World.setRow y3 w2.heap.size (cv h3).toArray)) := EncS.store HF2.out h3; clear HF2 _t; generalize World.setRow y3 w2.heap.size (cv h3).toArray = x3 at HE ⊢; have HE3 : Hid (EncS w (bcells ⟨(bn : Int), (sn : Int), (pn : Int), (qn : Int), rs⟩ (some ⟨rb, roff, none⟩) cap) w2.heap.size h3 a2 L x3) := HE; clear HE; obtain ⟨c0, c1, c2, c3, c4, cz⟩ := BxS.cells HE3.out.bx; simp only at c0 c1 c2 c3 c4)
    | (have _t := HE3; refine wpList_load_row rfl 155 _ rfl w2.heap.size rfl 155 (cv h3).toArray (0, 0) _ HE3.out.arr Tryd.underlying155 rfl HS3.out ?_)
    | (go_at_call 90; have _t := HE3; refine (HX3.out _).mono ?_; rintro e y4 ⟨rfl, hb⟩; have HF3 : Hid (EncS w (bcells ⟨(bn : Int), (sn : Int), (pn : Int), (qn : Int), rs⟩ (some ⟨rb, roff, none⟩) cap) w2.heap.size h3 a2 L y4) := EncS.below HE3.out hb; clear hb HE3 _t c0 c1 c2 c3 c4 cz)
    | (have _t := HF3; refine wpList_store_row rfl 155 _ _ rfl w2.heap.size (cv h4).toArray rfl rfl 155 (cv h3).toArray HF3.out.arr HS4.out (by rw [HZ3.out, HZ4.out]) (arr_one h4) ?_; have HE : Hid (EncS w (bcells ⟨(bn : Int), (sn : Int), (pn : Int), (qn : Int), rs⟩ (some ⟨rb, roff, none⟩) cap) w2.heap.size h4 a2 L (World.setRow y4 w2.heap.size (cv h4).toArray)) := EncS.store HF3.out h4; clear HF3 _t; generalize World.setRow y4 w2.heap.size (cv h4).toArray = x4 at HE ⊢; have HE4 : Hid (EncS w (bcells ⟨(bn : Int), (sn : Int), (pn : Int), (qn : Int), rs⟩ (some ⟨rb, roff, none⟩) cap) w2.heap.size h4 a2 L x4) := HE; clear HE; obtain ⟨c0, c1, c2, c3, c4, cz⟩ := BxS.cells HE4.out.bx; simp only at c0 c1 c2 c3 c4)
    | (have _t := HE4; refine wpList_load_row rfl 155 _ rfl w2.heap.size rfl 155 (cv h4).toArray (0, 0) _ HE4.out.arr Tryd.underlying155 rfl HS4.out ?_)
    | (go_at_call 90; have _t := HE4; refine (HX4.out _).mono ?_; rintro e y5 ⟨rfl, hb⟩; have HF4 : Hid (EncS w (bcells ⟨(bn : Int), (sn : Int), (pn : Int), (qn : Int), rs⟩ (some ⟨rb, roff, none⟩) cap) w2.heap.size h4 a2 L y5) := EncS.below HE4.out hb; clear hb HE4 _t c0 c1 c2 c3 c4 cz)
    | (have _t := HF4; refine wpList_store_row rfl 155 _ _ rfl w2.heap.size (cv h5).toArray rfl rfl 155 (cv h4).toArray HF4.out.arr HS5.out (by rw [HZ4.out, HZ5.out]) (arr_one h5) ?_; have HE : Hid (EncS w (bcells ⟨(bn : Int), (sn : Int), (pn : Int), (qn : Int), rs⟩ (some ⟨rb, roff, none⟩) cap) w2.heap.size h5 a2 L (World.setRow y5 w2.heap.size (cv h5).toArray)) := EncS.store HF4.out h5; clear HF4 _t; generalize World.setRow y5 w2.heap.size (cv h5).toArray = x5 at HE ⊢; have HE5 : Hid (EncS w (bcells ⟨(bn : Int), (sn : Int), (pn : Int), (qn : Int), rs⟩ (some ⟨rb, roff, none⟩) cap) w2.heap.size h5 a2 L x5) := HE; clear HE; obtain ⟨c0, c1, c2, c3, c4, cz⟩ := BxS.cells HE5.out.bx; simp only at c0 c1 c2 c3 c4)
    | (have _t := HE5; refine wpList_load_row rfl 155 _ rfl w2.heap.size rfl 155 (cv h5).toArray (0, 0) _ HE5.out.arr Tryd.underlying155 rfl HS5.out ?_)
    | (go_at_call 90; have _t := HE5; refine (HX5.out _).mono ?_; rintro e y6 ⟨rfl, hb⟩; have HF5 : Hid (EncS w (bcells ⟨(bn : Int), (sn : Int), (pn : Int), (qn : Int), rs⟩ (some ⟨rb, roff, none⟩) cap) w2.heap.size h5 a2 L y6) := EncS.below HE5.out hb; clear hb HE5 _t c0 c1 c2 c3 c4 cz)
    | (have _t := HF5; refine wpList_store_row rfl 155 _ _ rfl w2.heap.size (cv h6).toArray rfl rfl 155 (cv h5).toArray HF5.out.arr HS6.out (by rw [HZ5.out, HZ6.out]) (arr_one h6) ?_; have HE : Hid (EncS w (bcells ⟨(bn : Int), (sn : Int), (pn : Int), (qn : Int), rs⟩ (some ⟨rb, roff, none⟩) cap) w2.heap.size h6 a2 L (World.setRow y6 w2.heap.size (cv h6).toArray)) := EncS.store HF5.out h6; clear HF5 _t; generalize World.setRow y6 w2.heap.size (cv h6).toArray = x6 at HE ⊢; have HE6 : Hid (EncS w (bcells ⟨(bn : Int), (sn : Int), (pn : Int), (qn : Int), rs⟩ (some ⟨rb, roff, none⟩) cap) w2.heap.size h6 a2 L x6) := HE; clear HE; obtain ⟨c0, c1, c2, c3, c4, cz⟩ := BxS.cells HE6.out.bx; simp only at c0 c1 c2 c3 c4)
    | (have _t := HE6; refine wpList_load_row rfl 155 _ rfl w2.heap.size rfl 155 (cv h6).toArray (0, 0) _ HE6.out.arr Tryd.underlying155 rfl HS6.out ?_)
    | (go_at_call 90; have _t := HE6; refine (HX6.out _).mono ?_; rintro e y7 ⟨rfl, hb⟩; have HF6 : Hid (EncS w (bcells ⟨(bn : Int), (sn : Int), (pn : Int), (qn : Int), rs⟩ (some ⟨rb, roff, none⟩) cap) w2.heap.size h6 a2 L y7) := EncS.below HE6.out hb; clear hb HE6 _t c0 c1 c2 c3 c4 cz)
    | (have _t := HF6; refine wpList_store_row rfl 155 _ _ rfl w2.heap.size (cv h7).toArray rfl rfl 155 (cv h6).toArray HF6.out.arr HS7.out (by rw [HZ6.out, HZ7.out]) (arr_one h7) ?_; have HE : Hid (EncS w (bcells ⟨(bn : Int), (sn : Int), (pn : Int), (qn : Int), rs⟩ (some ⟨rb, roff, none⟩) cap) w2.heap.size h7 a2 L (World.setRow y7 w2.heap.size (cv h7).toArray)) := EncS.store HF6.out h7; clear HF6 _t; generalize World.setRow y7 w2.heap.size (cv h7).toArray = x7 at HE ⊢; have HE7 : Hid (EncS w (bcells ⟨(bn : Int), (sn : Int), (pn : Int), (qn : Int), rs⟩ (some ⟨rb, roff, none⟩) cap) w2.heap.size h7 a2 L x7) := HE; clear HE; obtain ⟨c0, c1, c2, c3, c4, cz⟩ := BxS.cells HE7.out.bx; simp only at c0 c1 c2 c3 c4)
    | (go_at_call 92; refine (HSU.out _ _ HE7.out.tab (EncS.arow HE7.out HHB.out)).mono ?_; rintro e w8 ⟨rfl, hw⟩; subst w8)
    | (go_at_call 91; refine (HMO.out _ a2 k2 HE7.out.tab HE7.out.row).mono ?_; rintro e w9 ⟨rfl, hw⟩; subst w9)
    | (have _t := HE7; refine wpList_load_row rfl 155 _ rfl w2.heap.size rfl 155 (cv h7).toArray (0, 0) _ HE7.out.arr Tryd.underlying155 rfl HS7.out ?_)
    | (go_at_call 90; have _t := HE7; refine (HX7.out _).mono ?_; rintro e y8 ⟨rfl, hb⟩; have HF7 : Hid (EncS w (bcells ⟨(bn : Int), (sn : Int), (pn : Int), (qn : Int), rs⟩ (some ⟨rb, roff, none⟩) cap) w2.heap.size h7 a2 L y8) := EncS.below HE7.out hb; clear hb HE7 _t c0 c1 c2 c3 c4 cz)
    | (have _t := HF7; refine wpList_store_row rfl 155 _ _ rfl w2.heap.size (cv h8).toArray rfl rfl 155 (cv h7).toArray HF7.out.arr HS8.out (by rw [HZ7.out, HZ8.out]) (arr_one h8) ?_; have HE : Hid (EncS w (bcells ⟨(bn : Int), (sn : Int), (pn : Int), (qn : Int), rs⟩ (some ⟨rb, roff, none⟩) cap) w2.heap.size h8 a2 L (World.setRow y8 w2.heap.size (cv h8).toArray)) := EncS.store HF7.out h8; clear HF7 _t; generalize World.setRow y8 w2.heap.size (cv h8).toArray = x8 at HE ⊢; have HE8 : Hid (EncS w (bcells ⟨(bn : Int), (sn : Int), (pn : Int), (qn : Int), rs⟩ (some ⟨rb, roff, none⟩) cap) w2.heap.size h8 a2 L x8) := HE; clear HE; obtain ⟨c0, c1, c2, c3, c4, cz⟩ := BxS.cells HE8.out.bx; simp only at c0 c1 c2 c3 c4)
    | (have _t := HE8; refine wpList_load_row rfl 155 _ rfl w2.heap.size rfl 155 (cv h8).toArray (0, 0) _ HE8.out.arr Tryd.underlying155 rfl HS8.out ?_)
    | (go_at_call 93; refine (HJ.out _ a2 k2 HE8.out.row).mono ?_; rintro e w10 ⟨g, rfl, hown, hb⟩; have HBL : Hid (Below w.heap.size w w10) := HE8.out.bx.bel.trans (hb.mono HE8.out.bx.bel.size)))
  go_ret2
  exact ⟨g, rfl, own_le hown HE8.out.bx.bel.size, HBL.out⟩
set_option maxRecDepth 100000 in
theorem bencode_big (b : Ba) (a : Option Addr) (cap : Nat) (w : World) (hr : RRow w a b.rs) (hw : wrE b = 0) (h : chkB b ≠ 0) :
    Calls Tryd.prog 83 #[bav b a cap] w fun e w' => e = .returned (.tuple #[.slice none 0 0, .int .i64 2]) ∧ Below w.heap.size w w' := by
  obtain ⟨_, _, _, _, r0, hri, hc⟩ := wr_ok hw
  have hft := wr_time hw
  have hlen := (wr_len hw).1
  have hL : 6000 < 48 + (bodyL b.rs (frs b)).length := by
    unfold chkB at h
    rw [if_pos hw] at h
    split at h
    · assumption
    · exact absurd rfl h
  have hL2 := body_len (frs b) hc
  have HW : Hid (∀ w, RRow w a b.rs → Calls Tryd.prog 88 #[bav b a cap] w fun e w' => e = .returned (.int .i64 0) ∧ Below w.heap.size w w') := by
    intro w hr
    have := wrong_any b a cap w hr (by unfold maxLen; omega)
    rw [hw] at this
    exact this
  have HBO : Hid (∀ w, RRow w a b.rs → Calls Tryd.prog 89 #[.slice a b.rs.length cap, .int .i64 (frs b)] w fun e w' => ∃ v, e = .returned v ∧ w'.ownsRow w.heap.size 5 1 v (bodyL b.rs (frs b)).length (cv (bodyL b.rs (frs b))) ∧ Below w.heap.size w w') := fun w hr => body_any a cap b.rs (frs b) w hr hlen hc hft
  have HR4 : Hid (∀ w, RRow w a b.rs → ∃ x off, a = some ⟨x, off, none⟩ ∧ x < w.heap.size ∧ w.cell? ⟨x, off + 4, none⟩ = some (.int .i64 (frs b))) := by
    intro w hr
    obtain ⟨x, off, e, z0, _, _, _, z4, _⟩ := hr 0 r0
    rw [Nat.zero_mul, Nat.add_zero] at z4
    have := World.block_lt_of_cell? _ _ z0
    exact ⟨x, off, e, by simpa using this, z4⟩
  have HLB : Hid (∀ i, (bodyL b.rs (frs b)).getD i 0 < 256) := lt_mem (body_mem hft hc)
  generalize bodyL b.rs (frs b) = L at *
  generalize frs b = fr at *
  clear h hw hc hri hft
  obtain ⟨base, span, prod, seq, rs⟩ := b
  simp only [bav] at *
  obtain ⟨rb, roff, rfl, hrb, _⟩ := HR4.out w hr
  have HR0 : Hid (RRow w (some ⟨rb, roff, none⟩) rs) := hr
  have HY4 : Hid (∀ x, Below w.heap.size w x → x.cell? ⟨rb, roff + 4, none⟩ = some (.int .i64 fr)) := by
    intro x hb
    obtain ⟨y, off, e, _, h⟩ := HR4.out x (RRow.below HR0.out hb)
    simp only [Option.some.injEq, Addr.mk.injEq, and_true] at e
    obtain ⟨rfl, rfl⟩ := e
    exact h
  clear hr HR4
  have hw1 : IntKind.i64.wrap (48 + (L.length : Int)) = 48 + (L.length : Int) := by rw [IntKind.wrap_i64]; omega
  have hLI : 6000 < 48 + (L.length : Int) := by omega
  have hrI : (0 : Int) < (rs.length : Int) := by omega
  go_enter Tryd.func83, Tryd.ntmps83
  go_wp2_with (first
    | (go_at_call 88; refine (HW.out _ (RRow.below HR0.out (below_box _))).mono ?_; rintro e w1 ⟨rfl, hb1⟩; have HB1 : Hid (BxS w (bcells ⟨base, span, prod, seq, rs⟩ (some ⟨rb, roff, none⟩) cap) w1) := BxS.below (BxS.new w _) hb1; have HRR : Hid (RRow w1 (some ⟨rb, roff, none⟩) rs) := RRow.below (RRow.below HR0.out (below_box _)) hb1; obtain ⟨c0, c1, c2, c3, c4, cz⟩ := BxS.cells HB1.out; simp only at c0 c1 c2 c3 c4; have y0 := HY4.out _ HB1.out.bel; clear hb1)
    | (go_at_call 89; refine (HBO.out _ HRR.out).mono ?_; rintro e w2 ⟨v2, rfl, hown2, hb2⟩; obtain ⟨a2, k2, rfl, hr2, hn2⟩ := owns_sl hown2 HLB.out; have HB2 : Hid (Below w.heap.size w w2) := HB1.out.bel.trans (hb2.mono HB1.out.bel.size); clear hown2 hr2 hn2))
  go_ret2
  exact ⟨rfl, HB2.out⟩
set_option maxRecDepth 100000 in
theorem bencode_no (b : Ba) (a : Option Addr) (cap : Nat) (w : World) (hr : RRow w a b.rs) (hl : b.rs.length ≤ maxLen) (hw : wrE b ≠ 0) :
    Calls Tryd.prog 83 #[bav b a cap] w fun e w' => e = .returned (.tuple #[.slice none 0 0, .int .i64 (wrE b)]) ∧ Below w.heap.size w w' := by
  have HW : Hid (∀ w, RRow w a b.rs → Calls Tryd.prog 88 #[bav b a cap] w fun e w' => e = .returned (.int .i64 (wrE b)) ∧ Below w.heap.size w w') := fun w hr => wrong_any b a cap w hr hl
  have hne : (wrE b != 0) = true := by rw [bne_iff_ne]; exact hw
  generalize wrE b = c at *
  obtain ⟨base, span, prod, seq, rs⟩ := b
  simp only [bav] at *
  have HR0 : Hid (RRow w a rs) := hr
  clear hr hw
  go_enter Tryd.func83, Tryd.ntmps83
  go_wp2_with (go_at_call 88; refine (HW.out _ (RRow.below HR0.out (below_box _))).mono ?_; rintro e w1 ⟨rfl, hb1⟩; have HB1 : Hid (Below w.heap.size w w1) := (below_box _).trans (hb1.mono (by simp)))
  go_ret2
  exact ⟨rfl, HB1.out⟩
/-- What Encode leaves: the bytes, or nothing. -/
def BEnc (f : Nat) (b : Ba) (a : Option Addr) (cap : Nat) : Prop := ∀ w, Tab w → RRow w a b.rs → Calls Tryd.prog f #[bav b a cap] w fun e w' => ∃ v, e = .returned (.tuple #[v, .int .i64 (chkB b)]) ∧ w'.ownsRow w.heap.size 5 1 v (encBR b).length (cv (encBR b)) ∧ Below w.heap.size w w'
theorem bencode_any (b : Ba) (a : Option Addr) (cap : Nat) (hi : In64B b) (hl : b.rs.length ≤ maxLen) : BEnc 83 b a cap := fun w ht hr => by
  by_cases hw : wrE b = 0
  · by_cases h : chkB b = 0
    · have hR : encBR b = encBL b := by unfold encBR; rw [if_pos h]
      rw [h, hR]
      refine (bencode_ok b a cap w hr hi ht h).mono ?_
      rintro e w' ⟨g, rfl, ho, hb⟩
      exact ⟨_, rfl, ho, hb⟩
    · have hR : encBR b = [] := by unfold encBR; rw [if_neg h]
      have h2 : chkB b = 2 := by
        unfold chkB at h ⊢
        rw [if_pos hw] at h ⊢
        split
        · rfl
        · rename_i hn; rw [if_neg hn] at h; exact absurd rfl h
      rw [h2, hR]
      refine (bencode_big b a cap w hr hw h).mono ?_
      rintro e w' ⟨rfl, hb⟩
      exact ⟨_, rfl, World.ownsRow_nil _ _ _ _, hb⟩
  · have h2 : chkB b = wrE b := by unfold chkB; rw [if_neg hw]
    have hR : encBR b = [] := by unfold encBR; rw [h2, if_neg hw]
    rw [h2, hR]
    refine (bencode_no b a cap w hr hl hw).mono ?_
    rintro e w' ⟨rfl, hb⟩
    exact ⟨_, rfl, World.ownsRow_nil _ _ _ _, hb⟩
end Go.Proofs.YtaooidckmepdeaaDoor
namespace Go.Proofs.YtaooidckmepdeaaDoor
set_option linter.unusedSimpArgs false
set_option linter.unusedVariables false
open Go.RowKit
set_option maxRecDepth 100000 in
theorem markOf_any (r : Rc) (w : World) : Calls Tryd.prog 82 #[.agg r.cells] w fun e w' => e = .returned (.int .i64 ((headB r.hk r.hv : Nat) : Int)) ∧ Below w.heap.size w w' := by
  obtain ⟨hk, k, hv, v, t, o⟩ := r
  simp only [Rc.cells]
  have e1 : bits .or .i64 0 1 = 1 := by decide
  have e2 : bits .or .i64 0 2 = 2 := by decide
  have e3 : bits .or .i64 1 2 = 3 := by decide
  cases hk <;> cases hv
  all_goals
    go_enter Tryd.func82, Tryd.ntmps82
    go_wp2_with fail
    go_ret
    refine ⟨retI ?_, below_box _⟩
    first | rfl | (simp only [e1, e2, e3]; rfl)
/-- A box that nothing of the writer touches. -/
theorem KeepT.box {B x : Nat} {w w' : World} {cs : Array Value} {t : TypeId} (k : KeepT B w w') (h : w.heap[x]? = some (.cells cs t (0, 0))) (hx : x ≠ B) (ht : t ≠ 5) : w'.heap[x]? = some (.cells cs t (0, 0)) := k.blk x _ hx h (notB ht)
theorem rc_box {w : World} {x : Nat} {r : Rc} (h : w.heap[x]? = some (.cells r.cells 87 (0, 0))) :
    w.cell? ⟨x, 0, none⟩ = some (.bool r.hk) ∧ w.cell? ⟨x, 1, none⟩ = some (.string r.k) ∧ w.cell? ⟨x, 2, none⟩ = some (.bool r.hv) ∧ w.cell? ⟨x, 3, none⟩ = some (.string r.v) ∧ w.cell? ⟨x, 4, none⟩ = some (.int .i64 r.t) ∧ w.cell? ⟨x, 5, none⟩ = some (.int .i64 r.o) ∧ x < w.heap.size :=
  ⟨(box_at h 0).1, (box_at h 1).1, (box_at h 2).1, (box_at h 3).1, (box_at h 4).1, (box_at h 5).1, (Array.getElem?_eq_some_iff.1 h).1⟩
/-- What stands once the record was looked at. -/
def stR (st : Ls) (r : Rc) : Ls := if okR r = true then st else none
theorem stR_eq (st : Ls) (r : Rc) : oa (oa (oa (oa (stR st r) (some (lay 1 (headB r.hk r.hv)))) (eIf r.hk r.k)) (eIf r.hv r.v)) (some (eInt r.t)) = oa st (eRec r) := by
  unfold stR eRec
  split
  · simp only [oa_assoc]
  · simp only [oa_none, none_oa]
theorem eNat_head (hk hv : Bool) : eNat 1 ((headB hk hv : Nat) : Int) = some (lay 1 (headB hk hv)) := by
  have := (head_bits hk hv).2.2
  unfold eNat
  rw [if_pos ⟨by omega, by omega⟩, Int.toNat_natCast]
theorem str_nil (s : ByteArray) : s.toList.isEmpty = decide (s.size = 0) := by
  have h : s.toList = s.data.toList := ByteArray.toList_eq s
  rw [h]
  obtain ⟨⟨l⟩⟩ := s
  cases l <;> simp [ByteArray.size]
/-- The record, laid. -/
theorem wrec_st (st : Ls) (r : Rc) (h : okR r = true) : oa st (eRec r) = oa (oa (oa (oa st (some (lay 1 (headB r.hk r.hv)))) (eIf r.hk r.k)) (eIf r.hv r.v)) (some (eInt r.t)) := by
  rw [← stR_eq]; unfold stR; rw [if_pos h]
theorem wrec_no (st : Ls) (r : Rc) (h : okR r = false) : oa st (eRec r) = none := by
  unfold eRec; rw [h]; simp [oa_none]
set_option maxHeartbeats 400000 in
set_option maxRecDepth 100000 in
theorem wrec_tt (w0 w : World) (st s0 s1 s2 s3 s4 : Ls) (N1 N2 N3 N4 N : Nat) (M : Int) (k v : ByteArray) (t o : Int) (bad cc : Bool) (hbad : bad = st.isNone) (hcc : cc = s0.isNone) (hw : WrS w0 w st N)
    (hc : cc = (bad || !(okR ⟨true, k, true, v, t, o⟩))) (hst : ∀ L, s0 = some L → st = some L) (N5 : Nat)
    (HM : Hid (∀ x, Calls Tryd.prog 82 #[.agg #[.bool true, .string k, .bool true, .string v, .int .i64 t, .int .i64 o]] x fun e w' => e = .returned (.int .i64 M) ∧ Below x.heap.size x w'))
    (HN : Hid (∀ x, WrS w0 x s0 N → Calls Tryd.prog 23 #[.pointer (some ⟨w0.heap.size, 0, none⟩), .int .i64 1, .int .i64 M] x (WP w0 x s1 N1)))
    (HK : Hid (∀ x, WrS w0 x s1 N1 → Calls Tryd.prog 57 #[.pointer (some ⟨w0.heap.size, 0, none⟩), .string k] x (WP w0 x s2 N2)))
    (HV : Hid (∀ x, WrS w0 x s2 N2 → Calls Tryd.prog 57 #[.pointer (some ⟨w0.heap.size, 0, none⟩), .string v] x (WP w0 x s3 N3)))
    (HT : Hid (∀ x, WrS w0 x s3 N3 → Calls Tryd.prog 56 #[.pointer (some ⟨w0.heap.size, 0, none⟩), .int .i64 t] x (WP w0 x s4 N4))) :
    Calls Tryd.prog 59 #[.pointer (some ⟨w0.heap.size, 0, none⟩), .agg #[.bool true, .string k, .bool true, .string v, .int .i64 t, .int .i64 o]] w (WP w0 w s4 N4) := by
  obtain ⟨a, m, c, c0, c1, f0, f1, hz⟩ := hw.open
  rw [← hbad] at c1
  have HNE : Hid (w.heap.size ≠ w0.heap.size) := by show _ ≠ _; omega
  have hne1 : ¬ w0.heap.size = w.heap.size := by omega
  have hne2 : ¬ w.heap.size = w0.heap.size := by omega
  have HS0 : Hid _ := hw.setBad s0 cc hcc hst
  have hsz : (w.setCell ⟨w0.heap.size, 1, none⟩ (.bool cc)).heap.size = w.heap.size := by simp [World.setCell]
  have HS : Hid (WrS w0 ((w.setCell ⟨w0.heap.size, 1, none⟩ (.bool cc)).alloc (.cells #[.bool true, .string k, .bool true, .string v, .int .i64 t, .int .i64 o] 87)) s0 N ∧ KeepT w0.heap.size w ((w.setCell ⟨w0.heap.size, 1, none⟩ (.bool cc)).alloc (.cells #[.bool true, .string k, .bool true, .string v, .int .i64 t, .int .i64 o] 87))) := ⟨HS0.out.1.below (below_box _), HS0.out.2.trans (KeepT.of_below (below_box _))⟩
  have HX : Hid (((w.setCell ⟨w0.heap.size, 1, none⟩ (.bool cc)).alloc (.cells #[.bool true, .string k, .bool true, .string v, .int .i64 t, .int .i64 o] 87)).heap[w.heap.size]? = some (.cells #[.bool true, .string k, .bool true, .string v, .int .i64 t, .int .i64 o] 87 (0, 0))) := by
    have q := heap_alloc_new (w.setCell ⟨w0.heap.size, 1, none⟩ (.bool cc)) (.cells #[.bool true, .string k, .bool true, .string v, .int .i64 t, .int .i64 o] 87)
    rw [hsz] at q
    exact q
  have hok : okR ⟨true, k, true, v, t, o⟩ = (decide (o = 0) && true && true) := by
    rfl
  rw [hok] at hc
  clear hw hst hbad hcc HS0 hok hsz
  have hoB : (o != 0) = !(decide (o = 0)) := by simp [bne, BEq.beq]
  cases bad
  · by_cases ho : o = 0
    · have hoE : (o != 0) = false := by rw [hoB, decide_eq_true ho]; rfl
      rw [decide_eq_true ho] at hc
      clear hoB ho
      obtain rfl : cc = false := by rw [hc]; rfl
      clear hc
      go_enter Tryd.func59, Tryd.ntmps59
      go_wp2_with (first
            | (go_at_call 82; refine (HM.out _).mono ?_; rintro e w1 ⟨rfl, hb1⟩; have HS1 : Hid _ := WrS.below HS.out.1 hb1; have HX1 : Hid (w1.heap[w.heap.size]? = some (.cells #[.bool true, .string k, .bool true, .string v, .int .i64 t, .int .i64 o] 87 (0, 0))) := (hb1.block _ (Array.getElem?_eq_some_iff.1 HX.out).1).trans HX.out; have HK1 : Hid (KeepT w0.heap.size w w1) := HS.out.2.trans (KeepT.of_below hb1); clear hb1)
            | (have _h := HS1; go_at_call 23; refine (HN.out _ HS1.out).mono ?_; rintro e w2 ⟨rfl, hw2, hk2⟩; have HS2 : Hid _ := hw2; have HX2 : Hid (w2.heap[w.heap.size]? = some (.cells #[.bool true, .string k, .bool true, .string v, .int .i64 t, .int .i64 o] 87 (0, 0))) := hk2.box HX1.out HNE.out (by decide); have HK2 : Hid (KeepT w0.heap.size w w2) := HK1.out.trans hk2; obtain ⟨d0, d1, d2, d3, d4, d5, d6⟩ := rc_box (r := ⟨true, k, true, v, t, o⟩) HX2.out; simp only at d0 d1 d2 d3 d4 d5; clear _h hw2 hk2)
            | (have _h := HS2; go_at_call 57; refine (HK.out _ HS2.out).mono ?_; rintro e w3 ⟨rfl, hw3, hk3⟩; have HS3 : Hid _ := hw3; have HX3 : Hid (w3.heap[w.heap.size]? = some (.cells #[.bool true, .string k, .bool true, .string v, .int .i64 t, .int .i64 o] 87 (0, 0))) := hk3.box HX2.out HNE.out (by decide); have HK3 : Hid (KeepT w0.heap.size w w3) := HK2.out.trans hk3; obtain ⟨d0, d1, d2, d3, d4, d5, d6⟩ := rc_box (r := ⟨true, k, true, v, t, o⟩) HX3.out; simp only at d0 d1 d2 d3 d4 d5; clear _h HS2 hw3 hk3)
            | (have _h := HS3; go_at_call 57; refine (HV.out _ HS3.out).mono ?_; rintro e w4 ⟨rfl, hw4, hk4⟩; have HS4 : Hid _ := hw4; have HX4 : Hid (w4.heap[w.heap.size]? = some (.cells #[.bool true, .string k, .bool true, .string v, .int .i64 t, .int .i64 o] 87 (0, 0))) := hk4.box HX3.out HNE.out (by decide); have HK4 : Hid (KeepT w0.heap.size w w4) := HK3.out.trans hk4; obtain ⟨d0, d1, d2, d3, d4, d5, d6⟩ := rc_box (r := ⟨true, k, true, v, t, o⟩) HX4.out; simp only at d0 d1 d2 d3 d4 d5; clear _h HS3 hw4 hk4)
            | (have _h := HS4; go_at_call 56; refine (HT.out _ HS4.out).mono ?_; rintro e w5 ⟨rfl, hw5, hk5⟩; clear _h))
      all_goals
        go_end0
        exact ⟨rfl, hw5, HK4.out.trans hk5⟩
    · have hoE : (o != 0) = true := by rw [hoB, decide_eq_false ho]; rfl
      rw [decide_eq_false ho] at hc
      clear hoB ho
      obtain rfl : cc = true := by rw [hc]; rfl
      clear hc
      go_enter Tryd.func59, Tryd.ntmps59
      go_wp2_with (first
            | (go_at_call 82; refine (HM.out _).mono ?_; rintro e w1 ⟨rfl, hb1⟩; have HS1 : Hid _ := WrS.below HS.out.1 hb1; have HX1 : Hid (w1.heap[w.heap.size]? = some (.cells #[.bool true, .string k, .bool true, .string v, .int .i64 t, .int .i64 o] 87 (0, 0))) := (hb1.block _ (Array.getElem?_eq_some_iff.1 HX.out).1).trans HX.out; have HK1 : Hid (KeepT w0.heap.size w w1) := HS.out.2.trans (KeepT.of_below hb1); clear hb1)
            | (have _h := HS1; go_at_call 23; refine (HN.out _ HS1.out).mono ?_; rintro e w2 ⟨rfl, hw2, hk2⟩; have HS2 : Hid _ := hw2; have HX2 : Hid (w2.heap[w.heap.size]? = some (.cells #[.bool true, .string k, .bool true, .string v, .int .i64 t, .int .i64 o] 87 (0, 0))) := hk2.box HX1.out HNE.out (by decide); have HK2 : Hid (KeepT w0.heap.size w w2) := HK1.out.trans hk2; obtain ⟨d0, d1, d2, d3, d4, d5, d6⟩ := rc_box (r := ⟨true, k, true, v, t, o⟩) HX2.out; simp only at d0 d1 d2 d3 d4 d5; clear _h hw2 hk2)
            | (have _h := HS2; go_at_call 57; refine (HK.out _ HS2.out).mono ?_; rintro e w3 ⟨rfl, hw3, hk3⟩; have HS3 : Hid _ := hw3; have HX3 : Hid (w3.heap[w.heap.size]? = some (.cells #[.bool true, .string k, .bool true, .string v, .int .i64 t, .int .i64 o] 87 (0, 0))) := hk3.box HX2.out HNE.out (by decide); have HK3 : Hid (KeepT w0.heap.size w w3) := HK2.out.trans hk3; obtain ⟨d0, d1, d2, d3, d4, d5, d6⟩ := rc_box (r := ⟨true, k, true, v, t, o⟩) HX3.out; simp only at d0 d1 d2 d3 d4 d5; clear _h HS2 hw3 hk3)
            | (have _h := HS3; go_at_call 57; refine (HV.out _ HS3.out).mono ?_; rintro e w4 ⟨rfl, hw4, hk4⟩; have HS4 : Hid _ := hw4; have HX4 : Hid (w4.heap[w.heap.size]? = some (.cells #[.bool true, .string k, .bool true, .string v, .int .i64 t, .int .i64 o] 87 (0, 0))) := hk4.box HX3.out HNE.out (by decide); have HK4 : Hid (KeepT w0.heap.size w w4) := HK3.out.trans hk4; obtain ⟨d0, d1, d2, d3, d4, d5, d6⟩ := rc_box (r := ⟨true, k, true, v, t, o⟩) HX4.out; simp only at d0 d1 d2 d3 d4 d5; clear _h HS3 hw4 hk4)
            | (have _h := HS4; go_at_call 56; refine (HT.out _ HS4.out).mono ?_; rintro e w5 ⟨rfl, hw5, hk5⟩; clear _h))
      all_goals
        go_end0
        exact ⟨rfl, hw5, HK4.out.trans hk5⟩
  · obtain rfl : cc = true := by rw [hc]; rfl
    clear hc hoB
    go_enter Tryd.func59, Tryd.ntmps59
    go_wp2_with (first
          | (go_at_call 82; refine (HM.out _).mono ?_; rintro e w1 ⟨rfl, hb1⟩; have HS1 : Hid _ := WrS.below HS.out.1 hb1; have HX1 : Hid (w1.heap[w.heap.size]? = some (.cells #[.bool true, .string k, .bool true, .string v, .int .i64 t, .int .i64 o] 87 (0, 0))) := (hb1.block _ (Array.getElem?_eq_some_iff.1 HX.out).1).trans HX.out; have HK1 : Hid (KeepT w0.heap.size w w1) := HS.out.2.trans (KeepT.of_below hb1); clear hb1)
          | (have _h := HS1; go_at_call 23; refine (HN.out _ HS1.out).mono ?_; rintro e w2 ⟨rfl, hw2, hk2⟩; have HS2 : Hid _ := hw2; have HX2 : Hid (w2.heap[w.heap.size]? = some (.cells #[.bool true, .string k, .bool true, .string v, .int .i64 t, .int .i64 o] 87 (0, 0))) := hk2.box HX1.out HNE.out (by decide); have HK2 : Hid (KeepT w0.heap.size w w2) := HK1.out.trans hk2; obtain ⟨d0, d1, d2, d3, d4, d5, d6⟩ := rc_box (r := ⟨true, k, true, v, t, o⟩) HX2.out; simp only at d0 d1 d2 d3 d4 d5; clear _h hw2 hk2)
          | (have _h := HS2; go_at_call 57; refine (HK.out _ HS2.out).mono ?_; rintro e w3 ⟨rfl, hw3, hk3⟩; have HS3 : Hid _ := hw3; have HX3 : Hid (w3.heap[w.heap.size]? = some (.cells #[.bool true, .string k, .bool true, .string v, .int .i64 t, .int .i64 o] 87 (0, 0))) := hk3.box HX2.out HNE.out (by decide); have HK3 : Hid (KeepT w0.heap.size w w3) := HK2.out.trans hk3; obtain ⟨d0, d1, d2, d3, d4, d5, d6⟩ := rc_box (r := ⟨true, k, true, v, t, o⟩) HX3.out; simp only at d0 d1 d2 d3 d4 d5; clear _h HS2 hw3 hk3)
          | (have _h := HS3; go_at_call 57; refine (HV.out _ HS3.out).mono ?_; rintro e w4 ⟨rfl, hw4, hk4⟩; have HS4 : Hid _ := hw4; have HX4 : Hid (w4.heap[w.heap.size]? = some (.cells #[.bool true, .string k, .bool true, .string v, .int .i64 t, .int .i64 o] 87 (0, 0))) := hk4.box HX3.out HNE.out (by decide); have HK4 : Hid (KeepT w0.heap.size w w4) := HK3.out.trans hk4; obtain ⟨d0, d1, d2, d3, d4, d5, d6⟩ := rc_box (r := ⟨true, k, true, v, t, o⟩) HX4.out; simp only at d0 d1 d2 d3 d4 d5; clear _h HS3 hw4 hk4)
          | (have _h := HS4; go_at_call 56; refine (HT.out _ HS4.out).mono ?_; rintro e w5 ⟨rfl, hw5, hk5⟩; clear _h))
    all_goals
      go_end0
      exact ⟨rfl, hw5, HK4.out.trans hk5⟩
set_option maxHeartbeats 400000 in
set_option maxRecDepth 100000 in
theorem wrec_tf (w0 w : World) (st s0 s1 s2 s3 s4 : Ls) (N1 N2 N3 N4 N : Nat) (M : Int) (k v : ByteArray) (t o : Int) (bad cc : Bool) (hbad : bad = st.isNone) (hcc : cc = s0.isNone) (hw : WrS w0 w st N)
    (hc : cc = (bad || !(okR ⟨true, k, false, v, t, o⟩))) (hst : ∀ L, s0 = some L → st = some L) (N5 : Nat)
    (HM : Hid (∀ x, Calls Tryd.prog 82 #[.agg #[.bool true, .string k, .bool false, .string v, .int .i64 t, .int .i64 o]] x fun e w' => e = .returned (.int .i64 M) ∧ Below x.heap.size x w'))
    (HN : Hid (∀ x, WrS w0 x s0 N → Calls Tryd.prog 23 #[.pointer (some ⟨w0.heap.size, 0, none⟩), .int .i64 1, .int .i64 M] x (WP w0 x s1 N1)))
    (HK : Hid (∀ x, WrS w0 x s1 N1 → Calls Tryd.prog 57 #[.pointer (some ⟨w0.heap.size, 0, none⟩), .string k] x (WP w0 x s2 N2)))
    (HV : Hid (∀ x, WrS w0 x s2 N2 → Calls Tryd.prog 57 #[.pointer (some ⟨w0.heap.size, 0, none⟩), .string v] x (WP w0 x s3 N3)))
    (HT : Hid (∀ x, WrS w0 x s2 N2 → Calls Tryd.prog 56 #[.pointer (some ⟨w0.heap.size, 0, none⟩), .int .i64 t] x (WP w0 x s4 N4))) :
    Calls Tryd.prog 59 #[.pointer (some ⟨w0.heap.size, 0, none⟩), .agg #[.bool true, .string k, .bool false, .string v, .int .i64 t, .int .i64 o]] w (WP w0 w s4 N4) := by
  obtain ⟨a, m, c, c0, c1, f0, f1, hz⟩ := hw.open
  rw [← hbad] at c1
  have HNE : Hid (w.heap.size ≠ w0.heap.size) := by show _ ≠ _; omega
  have hne1 : ¬ w0.heap.size = w.heap.size := by omega
  have hne2 : ¬ w.heap.size = w0.heap.size := by omega
  have HS0 : Hid _ := hw.setBad s0 cc hcc hst
  have hsz : (w.setCell ⟨w0.heap.size, 1, none⟩ (.bool cc)).heap.size = w.heap.size := by simp [World.setCell]
  have HS : Hid (WrS w0 ((w.setCell ⟨w0.heap.size, 1, none⟩ (.bool cc)).alloc (.cells #[.bool true, .string k, .bool false, .string v, .int .i64 t, .int .i64 o] 87)) s0 N ∧ KeepT w0.heap.size w ((w.setCell ⟨w0.heap.size, 1, none⟩ (.bool cc)).alloc (.cells #[.bool true, .string k, .bool false, .string v, .int .i64 t, .int .i64 o] 87))) := ⟨HS0.out.1.below (below_box _), HS0.out.2.trans (KeepT.of_below (below_box _))⟩
  have HX : Hid (((w.setCell ⟨w0.heap.size, 1, none⟩ (.bool cc)).alloc (.cells #[.bool true, .string k, .bool false, .string v, .int .i64 t, .int .i64 o] 87)).heap[w.heap.size]? = some (.cells #[.bool true, .string k, .bool false, .string v, .int .i64 t, .int .i64 o] 87 (0, 0))) := by
    have q := heap_alloc_new (w.setCell ⟨w0.heap.size, 1, none⟩ (.bool cc)) (.cells #[.bool true, .string k, .bool false, .string v, .int .i64 t, .int .i64 o] 87)
    rw [hsz] at q
    exact q
  have hok : okR ⟨true, k, false, v, t, o⟩ = (decide (o = 0) && true && v.toList.isEmpty) := by
    rw [str_nil v]; rfl
  rw [hok] at hc
  clear hw hst hbad hcc HS0 hok hsz
  have hoB : (o != 0) = !(decide (o = 0)) := by simp [bne, BEq.beq]
  cases bad
  · by_cases ho : o = 0
    · have hoE : (o != 0) = false := by rw [hoB, decide_eq_true ho]; rfl
      rw [decide_eq_true ho] at hc
      clear hoB ho
      cases hvq : v.toList.isEmpty with
      | false =>
        rw [hvq] at hc
        obtain rfl : cc = true := by rw [hc]; rfl
        clear hc
        go_enter Tryd.func59, Tryd.ntmps59
        go_wp2_with (first
              | (go_at_call 82; refine (HM.out _).mono ?_; rintro e w1 ⟨rfl, hb1⟩; have HS1 : Hid _ := WrS.below HS.out.1 hb1; have HX1 : Hid (w1.heap[w.heap.size]? = some (.cells #[.bool true, .string k, .bool false, .string v, .int .i64 t, .int .i64 o] 87 (0, 0))) := (hb1.block _ (Array.getElem?_eq_some_iff.1 HX.out).1).trans HX.out; have HK1 : Hid (KeepT w0.heap.size w w1) := HS.out.2.trans (KeepT.of_below hb1); clear hb1)
              | (have _h := HS1; go_at_call 23; refine (HN.out _ HS1.out).mono ?_; rintro e w2 ⟨rfl, hw2, hk2⟩; have HS2 : Hid _ := hw2; have HX2 : Hid (w2.heap[w.heap.size]? = some (.cells #[.bool true, .string k, .bool false, .string v, .int .i64 t, .int .i64 o] 87 (0, 0))) := hk2.box HX1.out HNE.out (by decide); have HK2 : Hid (KeepT w0.heap.size w w2) := HK1.out.trans hk2; obtain ⟨d0, d1, d2, d3, d4, d5, d6⟩ := rc_box (r := ⟨true, k, false, v, t, o⟩) HX2.out; simp only at d0 d1 d2 d3 d4 d5; clear _h hw2 hk2)
              | (have _h := HS2; go_at_call 57; refine (HK.out _ HS2.out).mono ?_; rintro e w3 ⟨rfl, hw3, hk3⟩; have HS3 : Hid _ := hw3; have HX3 : Hid (w3.heap[w.heap.size]? = some (.cells #[.bool true, .string k, .bool false, .string v, .int .i64 t, .int .i64 o] 87 (0, 0))) := hk3.box HX2.out HNE.out (by decide); have HK3 : Hid (KeepT w0.heap.size w w3) := HK2.out.trans hk3; obtain ⟨d0, d1, d2, d3, d4, d5, d6⟩ := rc_box (r := ⟨true, k, false, v, t, o⟩) HX3.out; simp only at d0 d1 d2 d3 d4 d5; clear _h HS2 hw3 hk3)
              | (have _h := HS3; go_at_call 56; refine (HT.out _ HS3.out).mono ?_; rintro e w5 ⟨rfl, hw5, hk5⟩; clear _h))
        all_goals
          go_end0
          exact ⟨rfl, hw5, HK3.out.trans hk5⟩
      | true =>
        rw [hvq] at hc
        obtain rfl : cc = false := by rw [hc]; rfl
        clear hc
        go_enter Tryd.func59, Tryd.ntmps59
        go_wp2_with (first
              | (go_at_call 82; refine (HM.out _).mono ?_; rintro e w1 ⟨rfl, hb1⟩; have HS1 : Hid _ := WrS.below HS.out.1 hb1; have HX1 : Hid (w1.heap[w.heap.size]? = some (.cells #[.bool true, .string k, .bool false, .string v, .int .i64 t, .int .i64 o] 87 (0, 0))) := (hb1.block _ (Array.getElem?_eq_some_iff.1 HX.out).1).trans HX.out; have HK1 : Hid (KeepT w0.heap.size w w1) := HS.out.2.trans (KeepT.of_below hb1); clear hb1)
              | (have _h := HS1; go_at_call 23; refine (HN.out _ HS1.out).mono ?_; rintro e w2 ⟨rfl, hw2, hk2⟩; have HS2 : Hid _ := hw2; have HX2 : Hid (w2.heap[w.heap.size]? = some (.cells #[.bool true, .string k, .bool false, .string v, .int .i64 t, .int .i64 o] 87 (0, 0))) := hk2.box HX1.out HNE.out (by decide); have HK2 : Hid (KeepT w0.heap.size w w2) := HK1.out.trans hk2; obtain ⟨d0, d1, d2, d3, d4, d5, d6⟩ := rc_box (r := ⟨true, k, false, v, t, o⟩) HX2.out; simp only at d0 d1 d2 d3 d4 d5; clear _h hw2 hk2)
              | (have _h := HS2; go_at_call 57; refine (HK.out _ HS2.out).mono ?_; rintro e w3 ⟨rfl, hw3, hk3⟩; have HS3 : Hid _ := hw3; have HX3 : Hid (w3.heap[w.heap.size]? = some (.cells #[.bool true, .string k, .bool false, .string v, .int .i64 t, .int .i64 o] 87 (0, 0))) := hk3.box HX2.out HNE.out (by decide); have HK3 : Hid (KeepT w0.heap.size w w3) := HK2.out.trans hk3; obtain ⟨d0, d1, d2, d3, d4, d5, d6⟩ := rc_box (r := ⟨true, k, false, v, t, o⟩) HX3.out; simp only at d0 d1 d2 d3 d4 d5; clear _h HS2 hw3 hk3)
              | (have _h := HS3; go_at_call 56; refine (HT.out _ HS3.out).mono ?_; rintro e w5 ⟨rfl, hw5, hk5⟩; clear _h))
        all_goals
          go_end0
          exact ⟨rfl, hw5, HK3.out.trans hk5⟩
    · have hoE : (o != 0) = true := by rw [hoB, decide_eq_false ho]; rfl
      rw [decide_eq_false ho] at hc
      clear hoB ho
      obtain rfl : cc = true := by rw [hc]; rfl
      clear hc
      go_enter Tryd.func59, Tryd.ntmps59
      go_wp2_with (first
            | (go_at_call 82; refine (HM.out _).mono ?_; rintro e w1 ⟨rfl, hb1⟩; have HS1 : Hid _ := WrS.below HS.out.1 hb1; have HX1 : Hid (w1.heap[w.heap.size]? = some (.cells #[.bool true, .string k, .bool false, .string v, .int .i64 t, .int .i64 o] 87 (0, 0))) := (hb1.block _ (Array.getElem?_eq_some_iff.1 HX.out).1).trans HX.out; have HK1 : Hid (KeepT w0.heap.size w w1) := HS.out.2.trans (KeepT.of_below hb1); clear hb1)
            | (have _h := HS1; go_at_call 23; refine (HN.out _ HS1.out).mono ?_; rintro e w2 ⟨rfl, hw2, hk2⟩; have HS2 : Hid _ := hw2; have HX2 : Hid (w2.heap[w.heap.size]? = some (.cells #[.bool true, .string k, .bool false, .string v, .int .i64 t, .int .i64 o] 87 (0, 0))) := hk2.box HX1.out HNE.out (by decide); have HK2 : Hid (KeepT w0.heap.size w w2) := HK1.out.trans hk2; obtain ⟨d0, d1, d2, d3, d4, d5, d6⟩ := rc_box (r := ⟨true, k, false, v, t, o⟩) HX2.out; simp only at d0 d1 d2 d3 d4 d5; clear _h hw2 hk2)
            | (have _h := HS2; go_at_call 57; refine (HK.out _ HS2.out).mono ?_; rintro e w3 ⟨rfl, hw3, hk3⟩; have HS3 : Hid _ := hw3; have HX3 : Hid (w3.heap[w.heap.size]? = some (.cells #[.bool true, .string k, .bool false, .string v, .int .i64 t, .int .i64 o] 87 (0, 0))) := hk3.box HX2.out HNE.out (by decide); have HK3 : Hid (KeepT w0.heap.size w w3) := HK2.out.trans hk3; obtain ⟨d0, d1, d2, d3, d4, d5, d6⟩ := rc_box (r := ⟨true, k, false, v, t, o⟩) HX3.out; simp only at d0 d1 d2 d3 d4 d5; clear _h HS2 hw3 hk3)
            | (have _h := HS3; go_at_call 56; refine (HT.out _ HS3.out).mono ?_; rintro e w5 ⟨rfl, hw5, hk5⟩; clear _h))
      all_goals
        go_end0
        exact ⟨rfl, hw5, HK3.out.trans hk5⟩
  · obtain rfl : cc = true := by rw [hc]; rfl
    clear hc hoB
    go_enter Tryd.func59, Tryd.ntmps59
    go_wp2_with (first
          | (go_at_call 82; refine (HM.out _).mono ?_; rintro e w1 ⟨rfl, hb1⟩; have HS1 : Hid _ := WrS.below HS.out.1 hb1; have HX1 : Hid (w1.heap[w.heap.size]? = some (.cells #[.bool true, .string k, .bool false, .string v, .int .i64 t, .int .i64 o] 87 (0, 0))) := (hb1.block _ (Array.getElem?_eq_some_iff.1 HX.out).1).trans HX.out; have HK1 : Hid (KeepT w0.heap.size w w1) := HS.out.2.trans (KeepT.of_below hb1); clear hb1)
          | (have _h := HS1; go_at_call 23; refine (HN.out _ HS1.out).mono ?_; rintro e w2 ⟨rfl, hw2, hk2⟩; have HS2 : Hid _ := hw2; have HX2 : Hid (w2.heap[w.heap.size]? = some (.cells #[.bool true, .string k, .bool false, .string v, .int .i64 t, .int .i64 o] 87 (0, 0))) := hk2.box HX1.out HNE.out (by decide); have HK2 : Hid (KeepT w0.heap.size w w2) := HK1.out.trans hk2; obtain ⟨d0, d1, d2, d3, d4, d5, d6⟩ := rc_box (r := ⟨true, k, false, v, t, o⟩) HX2.out; simp only at d0 d1 d2 d3 d4 d5; clear _h hw2 hk2)
          | (have _h := HS2; go_at_call 57; refine (HK.out _ HS2.out).mono ?_; rintro e w3 ⟨rfl, hw3, hk3⟩; have HS3 : Hid _ := hw3; have HX3 : Hid (w3.heap[w.heap.size]? = some (.cells #[.bool true, .string k, .bool false, .string v, .int .i64 t, .int .i64 o] 87 (0, 0))) := hk3.box HX2.out HNE.out (by decide); have HK3 : Hid (KeepT w0.heap.size w w3) := HK2.out.trans hk3; obtain ⟨d0, d1, d2, d3, d4, d5, d6⟩ := rc_box (r := ⟨true, k, false, v, t, o⟩) HX3.out; simp only at d0 d1 d2 d3 d4 d5; clear _h HS2 hw3 hk3)
          | (have _h := HS3; go_at_call 56; refine (HT.out _ HS3.out).mono ?_; rintro e w5 ⟨rfl, hw5, hk5⟩; clear _h))
    all_goals
      go_end0
      exact ⟨rfl, hw5, HK3.out.trans hk5⟩
set_option maxHeartbeats 400000 in
set_option maxRecDepth 100000 in
theorem wrec_ft (w0 w : World) (st s0 s1 s2 s3 s4 : Ls) (N1 N2 N3 N4 N : Nat) (M : Int) (k v : ByteArray) (t o : Int) (bad cc : Bool) (hbad : bad = st.isNone) (hcc : cc = s0.isNone) (hw : WrS w0 w st N)
    (hc : cc = (bad || !(okR ⟨false, k, true, v, t, o⟩))) (hst : ∀ L, s0 = some L → st = some L) (N5 : Nat)
    (HM : Hid (∀ x, Calls Tryd.prog 82 #[.agg #[.bool false, .string k, .bool true, .string v, .int .i64 t, .int .i64 o]] x fun e w' => e = .returned (.int .i64 M) ∧ Below x.heap.size x w'))
    (HN : Hid (∀ x, WrS w0 x s0 N → Calls Tryd.prog 23 #[.pointer (some ⟨w0.heap.size, 0, none⟩), .int .i64 1, .int .i64 M] x (WP w0 x s1 N1)))
    (HK : Hid (∀ x, WrS w0 x s1 N1 → Calls Tryd.prog 57 #[.pointer (some ⟨w0.heap.size, 0, none⟩), .string k] x (WP w0 x s2 N2)))
    (HV : Hid (∀ x, WrS w0 x s1 N1 → Calls Tryd.prog 57 #[.pointer (some ⟨w0.heap.size, 0, none⟩), .string v] x (WP w0 x s3 N3)))
    (HT : Hid (∀ x, WrS w0 x s3 N3 → Calls Tryd.prog 56 #[.pointer (some ⟨w0.heap.size, 0, none⟩), .int .i64 t] x (WP w0 x s4 N4))) :
    Calls Tryd.prog 59 #[.pointer (some ⟨w0.heap.size, 0, none⟩), .agg #[.bool false, .string k, .bool true, .string v, .int .i64 t, .int .i64 o]] w (WP w0 w s4 N4) := by
  obtain ⟨a, m, c, c0, c1, f0, f1, hz⟩ := hw.open
  rw [← hbad] at c1
  have HNE : Hid (w.heap.size ≠ w0.heap.size) := by show _ ≠ _; omega
  have hne1 : ¬ w0.heap.size = w.heap.size := by omega
  have hne2 : ¬ w.heap.size = w0.heap.size := by omega
  have HS0 : Hid _ := hw.setBad s0 cc hcc hst
  have hsz : (w.setCell ⟨w0.heap.size, 1, none⟩ (.bool cc)).heap.size = w.heap.size := by simp [World.setCell]
  have HS : Hid (WrS w0 ((w.setCell ⟨w0.heap.size, 1, none⟩ (.bool cc)).alloc (.cells #[.bool false, .string k, .bool true, .string v, .int .i64 t, .int .i64 o] 87)) s0 N ∧ KeepT w0.heap.size w ((w.setCell ⟨w0.heap.size, 1, none⟩ (.bool cc)).alloc (.cells #[.bool false, .string k, .bool true, .string v, .int .i64 t, .int .i64 o] 87))) := ⟨HS0.out.1.below (below_box _), HS0.out.2.trans (KeepT.of_below (below_box _))⟩
  have HX : Hid (((w.setCell ⟨w0.heap.size, 1, none⟩ (.bool cc)).alloc (.cells #[.bool false, .string k, .bool true, .string v, .int .i64 t, .int .i64 o] 87)).heap[w.heap.size]? = some (.cells #[.bool false, .string k, .bool true, .string v, .int .i64 t, .int .i64 o] 87 (0, 0))) := by
    have q := heap_alloc_new (w.setCell ⟨w0.heap.size, 1, none⟩ (.bool cc)) (.cells #[.bool false, .string k, .bool true, .string v, .int .i64 t, .int .i64 o] 87)
    rw [hsz] at q
    exact q
  have hok : okR ⟨false, k, true, v, t, o⟩ = (decide (o = 0) && k.toList.isEmpty && true) := by
    rw [str_nil k]; rfl
  rw [hok] at hc
  clear hw hst hbad hcc HS0 hok hsz
  have hoB : (o != 0) = !(decide (o = 0)) := by simp [bne, BEq.beq]
  cases bad
  · by_cases ho : o = 0
    · have hoE : (o != 0) = false := by rw [hoB, decide_eq_true ho]; rfl
      rw [decide_eq_true ho] at hc
      clear hoB ho
      cases hkq : k.toList.isEmpty with
      | false =>
        rw [hkq] at hc
        obtain rfl : cc = true := by rw [hc]; rfl
        clear hc
        go_enter Tryd.func59, Tryd.ntmps59
        go_wp2_with (first
              | (go_at_call 82; refine (HM.out _).mono ?_; rintro e w1 ⟨rfl, hb1⟩; have HS1 : Hid _ := WrS.below HS.out.1 hb1; have HX1 : Hid (w1.heap[w.heap.size]? = some (.cells #[.bool false, .string k, .bool true, .string v, .int .i64 t, .int .i64 o] 87 (0, 0))) := (hb1.block _ (Array.getElem?_eq_some_iff.1 HX.out).1).trans HX.out; have HK1 : Hid (KeepT w0.heap.size w w1) := HS.out.2.trans (KeepT.of_below hb1); clear hb1)
              | (have _h := HS1; go_at_call 23; refine (HN.out _ HS1.out).mono ?_; rintro e w2 ⟨rfl, hw2, hk2⟩; have HS2 : Hid _ := hw2; have HX2 : Hid (w2.heap[w.heap.size]? = some (.cells #[.bool false, .string k, .bool true, .string v, .int .i64 t, .int .i64 o] 87 (0, 0))) := hk2.box HX1.out HNE.out (by decide); have HK2 : Hid (KeepT w0.heap.size w w2) := HK1.out.trans hk2; obtain ⟨d0, d1, d2, d3, d4, d5, d6⟩ := rc_box (r := ⟨false, k, true, v, t, o⟩) HX2.out; simp only at d0 d1 d2 d3 d4 d5; clear _h hw2 hk2)
              | (have _h := HS2; go_at_call 57; refine (HV.out _ HS2.out).mono ?_; rintro e w4 ⟨rfl, hw4, hk4⟩; have HS4 : Hid _ := hw4; have HX4 : Hid (w4.heap[w.heap.size]? = some (.cells #[.bool false, .string k, .bool true, .string v, .int .i64 t, .int .i64 o] 87 (0, 0))) := hk4.box HX2.out HNE.out (by decide); have HK4 : Hid (KeepT w0.heap.size w w4) := HK2.out.trans hk4; obtain ⟨d0, d1, d2, d3, d4, d5, d6⟩ := rc_box (r := ⟨false, k, true, v, t, o⟩) HX4.out; simp only at d0 d1 d2 d3 d4 d5; clear _h HS2 hw4 hk4)
              | (have _h := HS4; go_at_call 56; refine (HT.out _ HS4.out).mono ?_; rintro e w5 ⟨rfl, hw5, hk5⟩; clear _h))
        all_goals
          go_end0
          exact ⟨rfl, hw5, HK4.out.trans hk5⟩
      | true =>
        rw [hkq] at hc
        obtain rfl : cc = false := by rw [hc]; rfl
        clear hc
        go_enter Tryd.func59, Tryd.ntmps59
        go_wp2_with (first
              | (go_at_call 82; refine (HM.out _).mono ?_; rintro e w1 ⟨rfl, hb1⟩; have HS1 : Hid _ := WrS.below HS.out.1 hb1; have HX1 : Hid (w1.heap[w.heap.size]? = some (.cells #[.bool false, .string k, .bool true, .string v, .int .i64 t, .int .i64 o] 87 (0, 0))) := (hb1.block _ (Array.getElem?_eq_some_iff.1 HX.out).1).trans HX.out; have HK1 : Hid (KeepT w0.heap.size w w1) := HS.out.2.trans (KeepT.of_below hb1); clear hb1)
              | (have _h := HS1; go_at_call 23; refine (HN.out _ HS1.out).mono ?_; rintro e w2 ⟨rfl, hw2, hk2⟩; have HS2 : Hid _ := hw2; have HX2 : Hid (w2.heap[w.heap.size]? = some (.cells #[.bool false, .string k, .bool true, .string v, .int .i64 t, .int .i64 o] 87 (0, 0))) := hk2.box HX1.out HNE.out (by decide); have HK2 : Hid (KeepT w0.heap.size w w2) := HK1.out.trans hk2; obtain ⟨d0, d1, d2, d3, d4, d5, d6⟩ := rc_box (r := ⟨false, k, true, v, t, o⟩) HX2.out; simp only at d0 d1 d2 d3 d4 d5; clear _h hw2 hk2)
              | (have _h := HS2; go_at_call 57; refine (HV.out _ HS2.out).mono ?_; rintro e w4 ⟨rfl, hw4, hk4⟩; have HS4 : Hid _ := hw4; have HX4 : Hid (w4.heap[w.heap.size]? = some (.cells #[.bool false, .string k, .bool true, .string v, .int .i64 t, .int .i64 o] 87 (0, 0))) := hk4.box HX2.out HNE.out (by decide); have HK4 : Hid (KeepT w0.heap.size w w4) := HK2.out.trans hk4; obtain ⟨d0, d1, d2, d3, d4, d5, d6⟩ := rc_box (r := ⟨false, k, true, v, t, o⟩) HX4.out; simp only at d0 d1 d2 d3 d4 d5; clear _h HS2 hw4 hk4)
              | (have _h := HS4; go_at_call 56; refine (HT.out _ HS4.out).mono ?_; rintro e w5 ⟨rfl, hw5, hk5⟩; clear _h))
        all_goals
          go_end0
          exact ⟨rfl, hw5, HK4.out.trans hk5⟩
    · have hoE : (o != 0) = true := by rw [hoB, decide_eq_false ho]; rfl
      rw [decide_eq_false ho] at hc
      clear hoB ho
      obtain rfl : cc = true := by rw [hc]; rfl
      clear hc
      go_enter Tryd.func59, Tryd.ntmps59
      go_wp2_with (first
            | (go_at_call 82; refine (HM.out _).mono ?_; rintro e w1 ⟨rfl, hb1⟩; have HS1 : Hid _ := WrS.below HS.out.1 hb1; have HX1 : Hid (w1.heap[w.heap.size]? = some (.cells #[.bool false, .string k, .bool true, .string v, .int .i64 t, .int .i64 o] 87 (0, 0))) := (hb1.block _ (Array.getElem?_eq_some_iff.1 HX.out).1).trans HX.out; have HK1 : Hid (KeepT w0.heap.size w w1) := HS.out.2.trans (KeepT.of_below hb1); clear hb1)
            | (have _h := HS1; go_at_call 23; refine (HN.out _ HS1.out).mono ?_; rintro e w2 ⟨rfl, hw2, hk2⟩; have HS2 : Hid _ := hw2; have HX2 : Hid (w2.heap[w.heap.size]? = some (.cells #[.bool false, .string k, .bool true, .string v, .int .i64 t, .int .i64 o] 87 (0, 0))) := hk2.box HX1.out HNE.out (by decide); have HK2 : Hid (KeepT w0.heap.size w w2) := HK1.out.trans hk2; obtain ⟨d0, d1, d2, d3, d4, d5, d6⟩ := rc_box (r := ⟨false, k, true, v, t, o⟩) HX2.out; simp only at d0 d1 d2 d3 d4 d5; clear _h hw2 hk2)
            | (have _h := HS2; go_at_call 57; refine (HV.out _ HS2.out).mono ?_; rintro e w4 ⟨rfl, hw4, hk4⟩; have HS4 : Hid _ := hw4; have HX4 : Hid (w4.heap[w.heap.size]? = some (.cells #[.bool false, .string k, .bool true, .string v, .int .i64 t, .int .i64 o] 87 (0, 0))) := hk4.box HX2.out HNE.out (by decide); have HK4 : Hid (KeepT w0.heap.size w w4) := HK2.out.trans hk4; obtain ⟨d0, d1, d2, d3, d4, d5, d6⟩ := rc_box (r := ⟨false, k, true, v, t, o⟩) HX4.out; simp only at d0 d1 d2 d3 d4 d5; clear _h HS2 hw4 hk4)
            | (have _h := HS4; go_at_call 56; refine (HT.out _ HS4.out).mono ?_; rintro e w5 ⟨rfl, hw5, hk5⟩; clear _h))
      all_goals
        go_end0
        exact ⟨rfl, hw5, HK4.out.trans hk5⟩
  · obtain rfl : cc = true := by rw [hc]; rfl
    clear hc hoB
    go_enter Tryd.func59, Tryd.ntmps59
    go_wp2_with (first
          | (go_at_call 82; refine (HM.out _).mono ?_; rintro e w1 ⟨rfl, hb1⟩; have HS1 : Hid _ := WrS.below HS.out.1 hb1; have HX1 : Hid (w1.heap[w.heap.size]? = some (.cells #[.bool false, .string k, .bool true, .string v, .int .i64 t, .int .i64 o] 87 (0, 0))) := (hb1.block _ (Array.getElem?_eq_some_iff.1 HX.out).1).trans HX.out; have HK1 : Hid (KeepT w0.heap.size w w1) := HS.out.2.trans (KeepT.of_below hb1); clear hb1)
          | (have _h := HS1; go_at_call 23; refine (HN.out _ HS1.out).mono ?_; rintro e w2 ⟨rfl, hw2, hk2⟩; have HS2 : Hid _ := hw2; have HX2 : Hid (w2.heap[w.heap.size]? = some (.cells #[.bool false, .string k, .bool true, .string v, .int .i64 t, .int .i64 o] 87 (0, 0))) := hk2.box HX1.out HNE.out (by decide); have HK2 : Hid (KeepT w0.heap.size w w2) := HK1.out.trans hk2; obtain ⟨d0, d1, d2, d3, d4, d5, d6⟩ := rc_box (r := ⟨false, k, true, v, t, o⟩) HX2.out; simp only at d0 d1 d2 d3 d4 d5; clear _h hw2 hk2)
          | (have _h := HS2; go_at_call 57; refine (HV.out _ HS2.out).mono ?_; rintro e w4 ⟨rfl, hw4, hk4⟩; have HS4 : Hid _ := hw4; have HX4 : Hid (w4.heap[w.heap.size]? = some (.cells #[.bool false, .string k, .bool true, .string v, .int .i64 t, .int .i64 o] 87 (0, 0))) := hk4.box HX2.out HNE.out (by decide); have HK4 : Hid (KeepT w0.heap.size w w4) := HK2.out.trans hk4; obtain ⟨d0, d1, d2, d3, d4, d5, d6⟩ := rc_box (r := ⟨false, k, true, v, t, o⟩) HX4.out; simp only at d0 d1 d2 d3 d4 d5; clear _h HS2 hw4 hk4)
          | (have _h := HS4; go_at_call 56; refine (HT.out _ HS4.out).mono ?_; rintro e w5 ⟨rfl, hw5, hk5⟩; clear _h))
    all_goals
      go_end0
      exact ⟨rfl, hw5, HK4.out.trans hk5⟩
set_option maxHeartbeats 400000 in
set_option maxRecDepth 100000 in
theorem wrec_ff (w0 w : World) (st s0 s1 s2 s3 s4 : Ls) (N1 N2 N3 N4 N : Nat) (M : Int) (k v : ByteArray) (t o : Int) (bad cc : Bool) (hbad : bad = st.isNone) (hcc : cc = s0.isNone) (hw : WrS w0 w st N)
    (hc : cc = (bad || !(okR ⟨false, k, false, v, t, o⟩))) (hst : ∀ L, s0 = some L → st = some L) (N5 : Nat)
    (HM : Hid (∀ x, Calls Tryd.prog 82 #[.agg #[.bool false, .string k, .bool false, .string v, .int .i64 t, .int .i64 o]] x fun e w' => e = .returned (.int .i64 M) ∧ Below x.heap.size x w'))
    (HN : Hid (∀ x, WrS w0 x s0 N → Calls Tryd.prog 23 #[.pointer (some ⟨w0.heap.size, 0, none⟩), .int .i64 1, .int .i64 M] x (WP w0 x s1 N1)))
    (HK : Hid (∀ x, WrS w0 x s1 N1 → Calls Tryd.prog 57 #[.pointer (some ⟨w0.heap.size, 0, none⟩), .string k] x (WP w0 x s2 N2)))
    (HV : Hid (∀ x, WrS w0 x s1 N1 → Calls Tryd.prog 57 #[.pointer (some ⟨w0.heap.size, 0, none⟩), .string v] x (WP w0 x s3 N3)))
    (HT : Hid (∀ x, WrS w0 x s1 N1 → Calls Tryd.prog 56 #[.pointer (some ⟨w0.heap.size, 0, none⟩), .int .i64 t] x (WP w0 x s4 N4))) :
    Calls Tryd.prog 59 #[.pointer (some ⟨w0.heap.size, 0, none⟩), .agg #[.bool false, .string k, .bool false, .string v, .int .i64 t, .int .i64 o]] w (WP w0 w s4 N4) := by
  obtain ⟨a, m, c, c0, c1, f0, f1, hz⟩ := hw.open
  rw [← hbad] at c1
  have HNE : Hid (w.heap.size ≠ w0.heap.size) := by show _ ≠ _; omega
  have hne1 : ¬ w0.heap.size = w.heap.size := by omega
  have hne2 : ¬ w.heap.size = w0.heap.size := by omega
  have HS0 : Hid _ := hw.setBad s0 cc hcc hst
  have hsz : (w.setCell ⟨w0.heap.size, 1, none⟩ (.bool cc)).heap.size = w.heap.size := by simp [World.setCell]
  have HS : Hid (WrS w0 ((w.setCell ⟨w0.heap.size, 1, none⟩ (.bool cc)).alloc (.cells #[.bool false, .string k, .bool false, .string v, .int .i64 t, .int .i64 o] 87)) s0 N ∧ KeepT w0.heap.size w ((w.setCell ⟨w0.heap.size, 1, none⟩ (.bool cc)).alloc (.cells #[.bool false, .string k, .bool false, .string v, .int .i64 t, .int .i64 o] 87))) := ⟨HS0.out.1.below (below_box _), HS0.out.2.trans (KeepT.of_below (below_box _))⟩
  have HX : Hid (((w.setCell ⟨w0.heap.size, 1, none⟩ (.bool cc)).alloc (.cells #[.bool false, .string k, .bool false, .string v, .int .i64 t, .int .i64 o] 87)).heap[w.heap.size]? = some (.cells #[.bool false, .string k, .bool false, .string v, .int .i64 t, .int .i64 o] 87 (0, 0))) := by
    have q := heap_alloc_new (w.setCell ⟨w0.heap.size, 1, none⟩ (.bool cc)) (.cells #[.bool false, .string k, .bool false, .string v, .int .i64 t, .int .i64 o] 87)
    rw [hsz] at q
    exact q
  have hok : okR ⟨false, k, false, v, t, o⟩ = (decide (o = 0) && k.toList.isEmpty && v.toList.isEmpty) := by
    rw [str_nil k, str_nil v]; rfl
  rw [hok] at hc
  clear hw hst hbad hcc HS0 hok hsz
  have hoB : (o != 0) = !(decide (o = 0)) := by simp [bne, BEq.beq]
  cases bad
  · by_cases ho : o = 0
    · have hoE : (o != 0) = false := by rw [hoB, decide_eq_true ho]; rfl
      rw [decide_eq_true ho] at hc
      clear hoB ho
      cases hkq : k.toList.isEmpty with
      | false =>
        rw [hkq] at hc
        obtain rfl : cc = true := by rw [hc]; rfl
        clear hc
        go_enter Tryd.func59, Tryd.ntmps59
        go_wp2_with (first
              | (go_at_call 82; refine (HM.out _).mono ?_; rintro e w1 ⟨rfl, hb1⟩; have HS1 : Hid _ := WrS.below HS.out.1 hb1; have HX1 : Hid (w1.heap[w.heap.size]? = some (.cells #[.bool false, .string k, .bool false, .string v, .int .i64 t, .int .i64 o] 87 (0, 0))) := (hb1.block _ (Array.getElem?_eq_some_iff.1 HX.out).1).trans HX.out; have HK1 : Hid (KeepT w0.heap.size w w1) := HS.out.2.trans (KeepT.of_below hb1); clear hb1)
              | (have _h := HS1; go_at_call 23; refine (HN.out _ HS1.out).mono ?_; rintro e w2 ⟨rfl, hw2, hk2⟩; have HS2 : Hid _ := hw2; have HX2 : Hid (w2.heap[w.heap.size]? = some (.cells #[.bool false, .string k, .bool false, .string v, .int .i64 t, .int .i64 o] 87 (0, 0))) := hk2.box HX1.out HNE.out (by decide); have HK2 : Hid (KeepT w0.heap.size w w2) := HK1.out.trans hk2; obtain ⟨d0, d1, d2, d3, d4, d5, d6⟩ := rc_box (r := ⟨false, k, false, v, t, o⟩) HX2.out; simp only at d0 d1 d2 d3 d4 d5; clear _h hw2 hk2)
              | (have _h := HS2; go_at_call 56; refine (HT.out _ HS2.out).mono ?_; rintro e w5 ⟨rfl, hw5, hk5⟩; clear _h))
        all_goals
          go_end0
          exact ⟨rfl, hw5, HK2.out.trans hk5⟩
      | true =>
        rw [hkq] at hc
        cases hvq : v.toList.isEmpty with
        | false =>
          rw [hvq] at hc
          obtain rfl : cc = true := by rw [hc]; rfl
          clear hc
          go_enter Tryd.func59, Tryd.ntmps59
          go_wp2_with (first
                | (go_at_call 82; refine (HM.out _).mono ?_; rintro e w1 ⟨rfl, hb1⟩; have HS1 : Hid _ := WrS.below HS.out.1 hb1; have HX1 : Hid (w1.heap[w.heap.size]? = some (.cells #[.bool false, .string k, .bool false, .string v, .int .i64 t, .int .i64 o] 87 (0, 0))) := (hb1.block _ (Array.getElem?_eq_some_iff.1 HX.out).1).trans HX.out; have HK1 : Hid (KeepT w0.heap.size w w1) := HS.out.2.trans (KeepT.of_below hb1); clear hb1)
                | (have _h := HS1; go_at_call 23; refine (HN.out _ HS1.out).mono ?_; rintro e w2 ⟨rfl, hw2, hk2⟩; have HS2 : Hid _ := hw2; have HX2 : Hid (w2.heap[w.heap.size]? = some (.cells #[.bool false, .string k, .bool false, .string v, .int .i64 t, .int .i64 o] 87 (0, 0))) := hk2.box HX1.out HNE.out (by decide); have HK2 : Hid (KeepT w0.heap.size w w2) := HK1.out.trans hk2; obtain ⟨d0, d1, d2, d3, d4, d5, d6⟩ := rc_box (r := ⟨false, k, false, v, t, o⟩) HX2.out; simp only at d0 d1 d2 d3 d4 d5; clear _h hw2 hk2)
                | (have _h := HS2; go_at_call 56; refine (HT.out _ HS2.out).mono ?_; rintro e w5 ⟨rfl, hw5, hk5⟩; clear _h))
          all_goals
            go_end0
            exact ⟨rfl, hw5, HK2.out.trans hk5⟩
        | true =>
          rw [hvq] at hc
          obtain rfl : cc = false := by rw [hc]; rfl
          clear hc
          go_enter Tryd.func59, Tryd.ntmps59
          go_wp2_with (first
                | (go_at_call 82; refine (HM.out _).mono ?_; rintro e w1 ⟨rfl, hb1⟩; have HS1 : Hid _ := WrS.below HS.out.1 hb1; have HX1 : Hid (w1.heap[w.heap.size]? = some (.cells #[.bool false, .string k, .bool false, .string v, .int .i64 t, .int .i64 o] 87 (0, 0))) := (hb1.block _ (Array.getElem?_eq_some_iff.1 HX.out).1).trans HX.out; have HK1 : Hid (KeepT w0.heap.size w w1) := HS.out.2.trans (KeepT.of_below hb1); clear hb1)
                | (have _h := HS1; go_at_call 23; refine (HN.out _ HS1.out).mono ?_; rintro e w2 ⟨rfl, hw2, hk2⟩; have HS2 : Hid _ := hw2; have HX2 : Hid (w2.heap[w.heap.size]? = some (.cells #[.bool false, .string k, .bool false, .string v, .int .i64 t, .int .i64 o] 87 (0, 0))) := hk2.box HX1.out HNE.out (by decide); have HK2 : Hid (KeepT w0.heap.size w w2) := HK1.out.trans hk2; obtain ⟨d0, d1, d2, d3, d4, d5, d6⟩ := rc_box (r := ⟨false, k, false, v, t, o⟩) HX2.out; simp only at d0 d1 d2 d3 d4 d5; clear _h hw2 hk2)
                | (have _h := HS2; go_at_call 56; refine (HT.out _ HS2.out).mono ?_; rintro e w5 ⟨rfl, hw5, hk5⟩; clear _h))
          all_goals
            go_end0
            exact ⟨rfl, hw5, HK2.out.trans hk5⟩
    · have hoE : (o != 0) = true := by rw [hoB, decide_eq_false ho]; rfl
      rw [decide_eq_false ho] at hc
      clear hoB ho
      obtain rfl : cc = true := by rw [hc]; rfl
      clear hc
      go_enter Tryd.func59, Tryd.ntmps59
      go_wp2_with (first
            | (go_at_call 82; refine (HM.out _).mono ?_; rintro e w1 ⟨rfl, hb1⟩; have HS1 : Hid _ := WrS.below HS.out.1 hb1; have HX1 : Hid (w1.heap[w.heap.size]? = some (.cells #[.bool false, .string k, .bool false, .string v, .int .i64 t, .int .i64 o] 87 (0, 0))) := (hb1.block _ (Array.getElem?_eq_some_iff.1 HX.out).1).trans HX.out; have HK1 : Hid (KeepT w0.heap.size w w1) := HS.out.2.trans (KeepT.of_below hb1); clear hb1)
            | (have _h := HS1; go_at_call 23; refine (HN.out _ HS1.out).mono ?_; rintro e w2 ⟨rfl, hw2, hk2⟩; have HS2 : Hid _ := hw2; have HX2 : Hid (w2.heap[w.heap.size]? = some (.cells #[.bool false, .string k, .bool false, .string v, .int .i64 t, .int .i64 o] 87 (0, 0))) := hk2.box HX1.out HNE.out (by decide); have HK2 : Hid (KeepT w0.heap.size w w2) := HK1.out.trans hk2; obtain ⟨d0, d1, d2, d3, d4, d5, d6⟩ := rc_box (r := ⟨false, k, false, v, t, o⟩) HX2.out; simp only at d0 d1 d2 d3 d4 d5; clear _h hw2 hk2)
            | (have _h := HS2; go_at_call 56; refine (HT.out _ HS2.out).mono ?_; rintro e w5 ⟨rfl, hw5, hk5⟩; clear _h))
      all_goals
        go_end0
        exact ⟨rfl, hw5, HK2.out.trans hk5⟩
  · obtain rfl : cc = true := by rw [hc]; rfl
    clear hc hoB
    go_enter Tryd.func59, Tryd.ntmps59
    go_wp2_with (first
          | (go_at_call 82; refine (HM.out _).mono ?_; rintro e w1 ⟨rfl, hb1⟩; have HS1 : Hid _ := WrS.below HS.out.1 hb1; have HX1 : Hid (w1.heap[w.heap.size]? = some (.cells #[.bool false, .string k, .bool false, .string v, .int .i64 t, .int .i64 o] 87 (0, 0))) := (hb1.block _ (Array.getElem?_eq_some_iff.1 HX.out).1).trans HX.out; have HK1 : Hid (KeepT w0.heap.size w w1) := HS.out.2.trans (KeepT.of_below hb1); clear hb1)
          | (have _h := HS1; go_at_call 23; refine (HN.out _ HS1.out).mono ?_; rintro e w2 ⟨rfl, hw2, hk2⟩; have HS2 : Hid _ := hw2; have HX2 : Hid (w2.heap[w.heap.size]? = some (.cells #[.bool false, .string k, .bool false, .string v, .int .i64 t, .int .i64 o] 87 (0, 0))) := hk2.box HX1.out HNE.out (by decide); have HK2 : Hid (KeepT w0.heap.size w w2) := HK1.out.trans hk2; obtain ⟨d0, d1, d2, d3, d4, d5, d6⟩ := rc_box (r := ⟨false, k, false, v, t, o⟩) HX2.out; simp only at d0 d1 d2 d3 d4 d5; clear _h hw2 hk2)
          | (have _h := HS2; go_at_call 56; refine (HT.out _ HS2.out).mono ?_; rintro e w5 ⟨rfl, hw5, hk5⟩; clear _h))
    all_goals
      go_end0
      exact ⟨rfl, hw5, HK2.out.trans hk5⟩
theorem wrec_any (w0 w : World) (st : Ls) (N : Nat) (r : Rc) (hN : N ≤ 600000000000) (ht : In64 r.t) (hk : r.k.size ≤ 9223372036854775807) (hv : r.v.size ≤ 9223372036854775807) (h : WrS w0 w st N) :
    Calls Tryd.prog 59 #[.pointer (some ⟨w0.heap.size, 0, none⟩), .agg r.cells] w (WP w0 w (oa st (eRec r)) (N + 140000)) := by
  have HM : ∀ x, Calls Tryd.prog 82 #[.agg r.cells] x fun e w' => e = .returned (.int .i64 ((headB r.hk r.hv : Nat) : Int)) ∧ Below x.heap.size x w' := fun x => markOf_any r x
  have hM := (head_bits r.hk r.hv).2.2
  have HN : ∀ s0 x, WrS w0 x s0 N → Calls Tryd.prog 23 #[.pointer (some ⟨w0.heap.size, 0, none⟩), .int .i64 1, .int .i64 ((headB r.hk r.hv : Nat) : Int)] x (WP w0 x (oa s0 (some (lay 1 (headB r.hk r.hv)))) (N + 8)) := fun s0 x hx => by
    have := wnat_any w0 x s0 N 1 1 ((headB r.hk r.hv : Nat) : Int) rfl (by omega) ⟨by omega, by omega⟩ (by omega) hx
    rw [eNat_head] at this
    exact this
  have HK : ∀ s0 x M, M ≤ 700000000000 → WrS w0 x s0 M → Calls Tryd.prog 57 #[.pointer (some ⟨w0.heap.size, 0, none⟩), .string r.k] x (WP w0 x (oa s0 (eText r.k)) (M + 65600)) := fun s0 x M hM hx => wtext_any w0 x s0 M r.k hk (by omega) hx
  have HV : ∀ s0 x M, M ≤ 700000000000 → WrS w0 x s0 M → Calls Tryd.prog 57 #[.pointer (some ⟨w0.heap.size, 0, none⟩), .string r.v] x (WP w0 x (oa s0 (eText r.v)) (M + 65600)) := fun s0 x M hM hx => wtext_any w0 x s0 M r.v hv (by omega) hx
  have HT : ∀ s0 x M, M ≤ 700000000000 → WrS w0 x s0 M → Calls Tryd.prog 56 #[.pointer (some ⟨w0.heap.size, 0, none⟩), .int .i64 r.t] x (WP w0 x (oa s0 (some (eInt r.t))) (M + 8)) := fun s0 x M hM hx => wnum_any w0 x s0 M r.t (by omega) hx
  have key : ∀ (s0 : Ls) (cc : Bool), cc = s0.isNone → cc = (st.isNone || !(okR r)) → (∀ L, s0 = some L → st = some L) → oa (oa (oa (oa s0 (some (lay 1 (headB r.hk r.hv)))) (eIf r.hk r.k)) (eIf r.hv r.v)) (some (eInt r.t)) = oa st (eRec r) →
      Calls Tryd.prog 59 #[.pointer (some ⟨w0.heap.size, 0, none⟩), .agg r.cells] w (WP w0 w (oa st (eRec r)) (N + 140000)) := by
    intro s0 cc hcc hc hst he
    rw [← he]
    have fin : ∀ (s : Ls) (M : Nat), M ≤ N + 140000 → ∀ e w', WP w0 w s M e w' → WP w0 w s (N + 140000) e w' := fun s M hM e w' q => ⟨q.1, q.2.1.mono hM, q.2.2⟩
    obtain ⟨rhk, k, rhv, v, t, o⟩ := r
    simp only [Rc.cells] at HM ⊢
    simp only at HN HK HV HT hM
    cases rhk <;> cases rhv
    · simp only [eIf, Bool.false_eq_true, if_false, oa_nil]
      exact (wrec_ff w0 w st s0 _ _ _ _ _ _ _ (N + 16) N _ k v t o st.isNone cc rfl hcc h hc hst 0 HM (HN s0) (HK _ · _ (by omega)) (HV _ · _ (by omega)) (HT _ · _ (by omega))).mono (fin _ _ (by omega))
    · simp only [eIf, Bool.false_eq_true, if_false, if_true, oa_nil]
      exact (wrec_ft w0 w st s0 _ _ _ _ _ _ _ (N + 8 + 65600 + 8) N _ k v t o st.isNone cc rfl hcc h hc hst 0 HM (HN s0) (HK _ · _ (by omega)) (HV _ · _ (by omega)) (HT _ · _ (by omega))).mono (fin _ _ (by omega))
    · simp only [eIf, Bool.false_eq_true, if_false, if_true, oa_nil]
      exact (wrec_tf w0 w st s0 _ _ _ _ _ _ _ (N + 8 + 65600 + 8) N _ k v t o st.isNone cc rfl hcc h hc hst 0 HM (HN s0) (HK _ · _ (by omega)) (HV _ · _ (by omega)) (HT _ · _ (by omega))).mono (fin _ _ (by omega))
    · simp only [eIf, if_true]
      exact (wrec_tt w0 w st s0 _ _ _ _ _ _ _ (N + 8 + 65600 + 65600 + 8) N _ k v t o st.isNone cc rfl hcc h hc hst 0 HM (HN s0) (HK _ · _ (by omega)) (HV _ · _ (by omega)) (HT _ · _ (by omega))).mono (fin _ _ (by omega))
  cases hok : okR r with
  | true => exact key st st.isNone rfl (by simp [hok]) (fun _ e => e) (wrec_st st r hok).symm
  | false => exact key none true rfl (by simp [hok]) (fun _ e => by cases e) (by rw [wrec_no st r hok]; simp only [none_oa])
end Go.Proofs.YtaooidckmepdeaaDoor
