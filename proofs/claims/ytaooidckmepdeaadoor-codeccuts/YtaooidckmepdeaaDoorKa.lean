/- The writer: what it laid, and whether it is bad; put, natural, number, text. -/
import Derived.Test.YtaooidckmepdeaaDoorKp
import Derived.Test.YtaooidckmepdeaaDoorBt
import Derived.Test.YtaooidckmepdeaaDoorApp
import Derived.Test.YtaooidckmepdeaaDoorStr
import Derived.Test.YtaooidckmepdeaaDoorDs
import Derived.Lib.AppendStr
namespace Go.Proofs.YtaooidckmepdeaaDoor
set_option linter.unusedSimpArgs false
set_option linter.unusedVariables false
open Go.RowKit
/-- No row of bytes. -/
def NotB (o : Obj) : Prop := ∀ cs fr, o ≠ .cells cs 5 fr
theorem notB {cs : Array Value} {t : TypeId} {fr : Nat × Nat} (h : t ≠ 5) : NotB (.cells cs t fr) := by
  intro cs' fr' e
  injection e with _ e2 _
  exact h e2
/-- What is no row of bytes stays, but for block B. -/
structure KeepT (B : Nat) (w w' : World) : Prop where
  size : w.heap.size ≤ w'.heap.size
  blk : ∀ x o, x ≠ B → w.heap[x]? = some o → NotB o → w'.heap[x]? = some o
theorem KeepT.refl (B : Nat) (w : World) : KeepT B w w := ⟨Nat.le_refl _, fun _ _ _ h _ => h⟩
theorem KeepT.trans {B : Nat} {w w1 w2 : World} (h : KeepT B w w1) (k : KeepT B w1 w2) : KeepT B w w2 :=
  ⟨Nat.le_trans h.size k.size, fun x o hx ho hn => k.blk x o hx (h.blk x o hx ho hn) hn⟩
theorem KeepT.of_below {B : Nat} {w w' : World} (h : Below w.heap.size w w') : KeepT B w w' :=
  ⟨h.size, fun x o _ ho _ => (h.block x (Array.getElem?_eq_some_iff.1 ho).1).trans ho⟩
theorem KeepT.grown {B M : Nat} {w w' : World} {v : Value} {n : Nat} {xs : List Value} (own : w.ownsRow M 5 1 v n xs) (g : w.grownBy w' v.ownBlock) : KeepT B w w' := by
  refine ⟨g.size, fun x o _ ho hn => (g.block x (Array.getElem?_eq_some_iff.1 ho).1 (fun e => ?_)).trans ho⟩
  rcases own.2 with ⟨rfl, _⟩ | ⟨b, cap, cur, rfl, _, hb, _⟩
  · cases e
  · simp only [Value.ownBlock, Option.some.injEq] at e
    subst e
    rw [hb] at ho
    injection ho with ho
    exact hn _ _ ho.symm
theorem KeepT.setCell (B off : Nat) (w : World) (v : Value) : KeepT B w (w.setCell ⟨B, off, none⟩ v) :=
  ⟨by simp [World.setCell], fun x o hx ho _ => (heap_setCell_other w ⟨B, off, none⟩ x v hx).trans ho⟩
theorem KeepT.drewN {B : Nat} {w w' : World} (h : KeepT B w w') (n : Nat) : KeepT B w (w'.drewN n) := ⟨h.size, h.blk⟩
/-- The writer's box lies behind w0: what was laid, or that something may not be. -/
structure WrS (w0 w : World) (st : Ls) (N : Nat) : Prop where
  ex : ∃ v l, w.heap[w0.heap.size]? = some (.cells #[v, .bool st.isNone] 60 (0, 0)) ∧ w.ownsRow w0.heap.size 5 1 v l.length (cv l) ∧ Byt l ∧ l.length ≤ N ∧ ∀ L, st = some L → l = L
  bel : Below w0.heap.size w0 w
theorem own_any {M : Nat} {w w' : World} {e : TypeId} {s : Nat} {v : Value} {n : Nat} {xs : List Value} (h : w.ownsRow M e s v n xs) (hb : Below w.heap.size w w') : w'.ownsRow M e s v n xs := by
  refine World.ownsRow.kept (row := none) h ⟨hb.os, hb.tape, hb.output, hb.size, fun k hk _ => hb.block k hk⟩ ?_
  cases v.ownBlock with
  | none => exact .inl rfl
  | some g => exact .inr (by simp)
theorem WrS.below {w0 w w' : World} {st : Ls} {N : Nat} (h : WrS w0 w st N) (hb : Below w.heap.size w w') : WrS w0 w' st N := by
  obtain ⟨v, l, hx, ho, r⟩ := h.ex
  exact ⟨⟨v, l, (hb.block _ (Array.getElem?_eq_some_iff.1 hx).1).trans hx, own_any ho hb, r⟩, h.bel.trans (hb.mono h.bel.size)⟩
theorem WrS.mono {w0 w : World} {st : Ls} {N M : Nat} (h : WrS w0 w st N) (hm : N ≤ M) : WrS w0 w st M := by
  obtain ⟨v, l, hx, ho, hb, hl, hs⟩ := h.ex
  exact ⟨⟨v, l, hx, ho, hb, Nat.le_trans hl hm, hs⟩, h.bel⟩
theorem box_at {w : World} {B : Nat} {cs : Array Value} {t : TypeId} (h : w.heap[B]? = some (.cells cs t (0, 0))) (i : Nat) : w.cell? ⟨B, i, none⟩ = cs[i]? ∧ w.frozen? ⟨B, i, none⟩ = false :=
  ⟨cell_of_row _ B i cs t (0, 0) h, by simp [World.frozen?, h]⟩
/-- The bytes that a row of the call's own shows. -/
theorem own_slice {w : World} {M : Nat} {v : Value} {l : List Nat} (h : w.ownsRow M 5 1 v l.length (cv l)) : ∃ a c, v = .slice a l.length c := by
  rcases h.2 with ⟨rfl, h0⟩ | ⟨g, cap, cur, rfl, _⟩
  · exact ⟨none, 0, by rw [h0]⟩
  · exact ⟨_, _, rfl⟩
theorem own_box {w : World} {M B : Nat} {v : Value} {n : Nat} {xs : List Value} {cs : Array Value} {t : TypeId} (h : w.ownsRow M 5 1 v n xs) (hx : w.heap[B]? = some (.cells cs t (0, 0))) (ht : t ≠ 5) : ∀ k, v.ownBlock = some k → k ≠ B := by
  rcases h.2 with ⟨rfl, _⟩ | ⟨g, cap, cur, rfl, _, hg, _⟩
  · intro k e; cases e
  · rintro k e rfl
    simp [Value.ownBlock] at e
    subst e
    rw [hg] at hx
    simp at hx
    exact ht hx.2.symm
theorem own_setCell {w : World} {M B off : Nat} {v u : Value} {n : Nat} {xs : List Value} (h : w.ownsRow M 5 1 v n xs) (hk : ∀ k, v.ownBlock = some k → k ≠ B) : (w.setCell ⟨B, off, none⟩ u).ownsRow M 5 1 v n xs := by
  refine ⟨h.1, ?_⟩
  rcases h.2 with hn | ⟨g, cap, cur, rfl, hb, hg, rest⟩
  · exact .inl hn
  · exact .inr ⟨g, cap, cur, rfl, hb, (heap_setCell_other w ⟨B, off, none⟩ g u (hk g rfl)).trans hg, rest⟩
theorem WrS.setBad {w0 w : World} {st : Ls} {N : Nat} (h : WrS w0 w st N) (st' : Ls) (bad : Bool) (hb : bad = st'.isNone) (hst : ∀ L, st' = some L → st = some L) : WrS w0 (w.setCell ⟨w0.heap.size, 1, none⟩ (.bool bad)) st' N ∧ KeepT w0.heap.size w (w.setCell ⟨w0.heap.size, 1, none⟩ (.bool bad)) := by
  obtain ⟨v, l, hx, ho, hbt, hl, hs⟩ := h.ex
  subst hb
  refine ⟨⟨⟨v, l, ?_, own_setCell ho (own_box ho hx (by decide)), hbt, hl, fun L e => hs L (hst L e)⟩, h.bel.setCell (p := ⟨w0.heap.size, 1, none⟩) (Nat.le_refl _) _⟩, KeepT.setCell _ _ _ _⟩
  rw [setCell_heap hx]
  rfl
theorem WrS.app {w0 w w1 : World} {st : Ls} {N M : Nat} {v v' : Value} {l m : List Nat} (hx : w.heap[w0.heap.size]? = some (.cells #[v, .bool st.isNone] 60 (0, 0))) (ho : w.ownsRow w0.heap.size 5 1 v l.length (cv l)) (hbt : Byt l) (hl : l.length ≤ N) (hs : ∀ L, st = some L → l = L)
    (bel : Below w0.heap.size w0 w) (ho' : w1.ownsRow w0.heap.size 5 1 v' (l ++ m).length (cv (l ++ m))) (g : w.grownBy w1 v.ownBlock) (hm : Byt m) (hM : N + m.length ≤ M) : WrS w0 (w1.setCell ⟨w0.heap.size, 0, none⟩ v') (oa st (some m)) M ∧ KeepT w0.heap.size w (w1.setCell ⟨w0.heap.size, 0, none⟩ v') := by
  have hx1 : w1.heap[w0.heap.size]? = some (.cells #[v, .bool st.isNone] 60 (0, 0)) := (g.block _ (Array.getElem?_eq_some_iff.1 hx).1 (fun e => own_box ho hx (by decide) _ e.symm rfl)).trans hx
  have b1 : Below w0.heap.size w0 w1 := bel.grown g bel.size (fun k hk => (ho.lt k hk).1)
  refine ⟨⟨⟨v', l ++ m, ?_, own_setCell ho' (own_box ho' hx1 (by decide)), hbt.app hm, by rw [List.length_append]; omega, ?_⟩, b1.setCell (p := ⟨w0.heap.size, 0, none⟩) (Nat.le_refl _) _⟩, (KeepT.grown ho g).trans (KeepT.setCell _ _ _ _)⟩
  · rw [setCell_heap hx1]
    cases st <;> rfl
  · intro L e
    obtain ⟨x, y, e1, e2, rfl⟩ := oa_some e
    rw [hs x e1]
    injection e2 with e2
    rw [e2]
/-- append of bytes, and of a text, onto a row of the call's own. -/
theorem wpList_append_rw {w : World} {ops : Array Oper} {rest : List Oper} {o : Oper} {a : Act} {Q : Exit → Act → World → Prop} (hw : Region.wanted o (yielded ops a.tmps) = true) (s x : Operand)
    (ho : o.op = .call { callee := .builtin .append, args := #[s, x], argTypes := #[29, 29] }) (B : Nat)
    (v : Value) (l : List Nat) (hs : a.eval s = v) (hown : w.ownsRow B 5 1 v l.length (cv l)) (hBs : B ≤ w.heap.size)
    (a' : Option Addr) (n cap : Nat) (m : List Nat) (hx : a.eval x = .slice a' n cap) (hn : n = m.length) (hr : Row w a' m) (hc : a' = none → cap = 0) (h63 : l.length + m.length ≤ 1000000000000)
    (h : ∀ v' w', w'.ownsRow B 5 1 v' (l ++ m).length (cv (l ++ m)) → w.grownBy w' v.ownBlock → wpList Tryd.prog ops Q rest (a.put o.dst v') w') : wpList Tryd.prog ops Q (o :: rest) a w := by
  obtain ⟨i0, hi, hz0, hz1, hz2⟩ := info_parts Tryd.info5
  subst hn
  refine BigFrame.wpList_want hw fun K hK => ?_
  cases a' with
  | none =>
    obtain rfl := row_none hr
    obtain rfl := hc rfl
    have hrun := run_append_owned_none (P := Tryd.prog) (w := w) B 29 o.type 5 i0 1 Tryd.underlying29 hi v l.length (cv l) hown
    have h0 : wpList Tryd.prog ops Q rest (a.put o.dst v) w := h v w (by simpa using hown) (World.grownBy.refl _ _)
    unfold Oper.wp
    simp [execOp, ho, resolve, invoke, builtin, hs, hx, hrun, Result.andThen]
    exact hK _ _ h0
  | some ad =>
    refine wp_append_own w s x 29 ho B 5 i0 (.int .u8 0) 1 1 Tryd.underlying29 hi hz0 hz1 hz2 rfl (by decide) v l.length (cv l) hs hown ad m.length cap (cv m) hx (by rw [cv_length]; omega) (row_news hr) (cv_one _) (by unfold maxLen; omega) (by omega) hBs ?_
    intro v' w' h2 h3 _
    exact hK _ _ (h v' w' (by rw [List.length_append, cv_append]; exact h2) h3)
theorem sb_cv (t : ByteArray) : Lib.strCells t = cv (sb t) := by
  unfold Lib.strCells cv sb
  simp
theorem wpList_append_txt {w : World} {ops : Array Oper} {rest : List Oper} {o : Oper} {a : Act} {Q : Exit → Act → World → Prop} (hw : Region.wanted o (yielded ops a.tmps) = true) (s x : Operand)
    (ho : o.op = .call { callee := .builtin .append, args := #[s, x], argTypes := #[29, 9] }) (B : Nat)
    (v : Value) (l : List Nat) (hs : a.eval s = v) (hown : w.ownsRow B 5 1 v l.length (cv l)) (hBs : B ≤ w.heap.size)
    (t : ByteArray) (hx : a.eval x = .string t) (h63 : l.length + t.size ≤ 1000000000000)
    (h : ∀ v' w', w'.ownsRow B 5 1 v' (l ++ sb t).length (cv (l ++ sb t)) → w.grownBy w' v.ownBlock → wpList Tryd.prog ops Q rest (a.put o.dst v') w') : wpList Tryd.prog ops Q (o :: rest) a w := by
  obtain ⟨i0, hi, hz0, hz1, hz2⟩ := info_parts Tryd.info5
  refine BigFrame.wpList_want hw fun K hK => ?_
  obtain ⟨v', w', hr, h2, h3, h4⟩ := Lib.run_append_own_string (P := Tryd.prog) w B 29 9 o.type 5 i0 Tryd.underlying29 Tryd.underlying9 hi hz0 hz1 hz2 v l.length (cv l) hown t (by unfold maxLen; omega) (by omega) hBs
  rw [sb_cv] at h2
  unfold Oper.wp execOp
  simp only [ho, resolve, invoke, builtin, Sem.run_bind, Sem.run_pure, Result.andThen_ok, List.map_toArray, List.map_cons, List.map_nil, hs, hx, hr]
  exact hK _ _ (h v' w' (by rw [List.length_append, cv_append, sb_len]; exact h2) h3)
/-- What a method of the writer leaves. -/
def WP (w0 w : World) (st : Ls) (N : Nat) (e : Ending) (w' : World) : Prop := e = .returned (.tuple #[]) ∧ WrS w0 w' st N ∧ KeepT w0.heap.size w w'
theorem put_new {n V : Nat} {l : List Nat} (h : l.length = n) : putL l 0 n true V = lay n V := by
  have := put_mid [] l [] n V h
  simpa using this
theorem lay_byt (n V : Nat) : Byt (lay n V) := lay_mem n V
theorem made_zero (m : Nat) : madeCells (Value.int .u8 0).cells (m * 1) = (cv (List.replicate m 0)).toArray := by
  unfold madeCells
  apply Array.ext
  · simp [cv]
  · intro i h1 h2
    simp [Value.cells, cv, Nat.mod_one]
theorem run_made (n : Nat) (Z : Int) (hZ : Z = n) (h : n ≤ 1000000) (w : World) : (Instr.makeSlice 29 (.int .i64 Z) (.int .i64 Z)).run Tryd.prog w = .ok (.slice (some ⟨w.heap.size, 0, none⟩) n n) (w.alloc (.cells (cv (List.replicate n 0)).toArray 5)) := by
  subst hZ
  obtain ⟨i0, hi, hz0, hz1, hz2⟩ := info_parts Tryd.info5
  have hr := run_make (P := Tryd.prog) w 29 5 i0 (.int .u8 0) Tryd.underlying29 hi hz0 .i64 .i64 (n : Int) (n : Int) (by omega) (by omega) (by rw [hz2]; omega) (by omega)
  rw [hz1, Int.toNat_natCast, made_zero] at hr
  exact hr
/-- Put into new bytes. -/
theorem put_zero (n V : Nat) (Z : Int) (hZ : Z = n) (h1 : 1 ≤ n) (h8 : n ≤ 8) (hV : V ≤ 18446744073709551615) (w : World) :
    Calls Tryd.prog 52 #[.slice (some ⟨w.heap.size, 0, none⟩) n n, .int .i64 0, .int .i64 Z, .bool true, .int .u64 V] (w.alloc (.cells (cv (List.replicate n 0)).toArray 5)) fun e w' =>
      (∃ g, e = .returned (.tuple #[.slice (some ⟨g, 0, none⟩) n n, .bool true]) ∧ Row w' (some ⟨g, 0, none⟩) (lay n V)) ∧ Below w.heap.size w w' := by
  subst hZ
  have hl : (List.replicate n 0).length = n := List.length_replicate
  have h := put_yes (some ⟨w.heap.size, 0, none⟩) n (List.replicate n 0) 0 n true V (w.alloc (.cells (cv (List.replicate n 0)).toArray 5)) (row_alloc w _ (lt_mem (fun x hx => by have := List.eq_of_mem_replicate hx; omega))) (by rw [hl]; omega) h1 h8 (by rw [hl]; omega) hV
  rw [hl, put_new hl] at h
  refine h.mono ?_
  rintro e w' ⟨⟨g, rfl, ho⟩, hb⟩
  exact ⟨⟨g, rfl, ho.row (lay_byt n V).getD⟩, (below_box _).trans (hb.mono (by simp))⟩
theorem len_own {w : World} {M : Nat} {a : Option Addr} {c k : Nat} {l : List Nat} {xs : List Value} (h : w.ownsRow M 5 1 (.slice a k c) l.length xs) : k = l.length := by
  rcases h.2 with ⟨e, h0⟩ | ⟨g, cap, cur, e, _⟩
  · injection e with _ e _; omega
  · injection e with _ e _
set_option maxHeartbeats 800000 in
set_option maxRecDepth 100000 in
theorem wput_any (w0 w : World) (st : Ls) (N n V : Nat) (Z : Int) (hZ : Z = n) (h : WrS w0 w st N) (hn : n = 1 ∨ n = 2 ∨ n = 4 ∨ n = 8) (hV : V ≤ 18446744073709551615) (hN : N ≤ 900000000000) :
    Calls Tryd.prog 41 #[.pointer (some ⟨w0.heap.size, 0, none⟩), .int .i64 Z, .int .u64 V] w (WP w0 w (oa st (some (lay n V))) (N + 8)) := by
  have HP : Hid _ := put_zero n V Z hZ (by omega) (by omega) hV w
  have HL : Hid ((lay n V).length = n) := lay_len n V
  have HB : Hid (Byt (lay n V)) := lay_byt n V
  have HW : Hid (WrS w0 w st N) := h
  clear h
  generalize lay n V = m at *
  have km := run_made n Z hZ (by omega)
  have hn8 : n ≤ 8 := by omega
  clear hn hZ
  go_enter Tryd.func41, Tryd.ntmps41
  go_wp2_with (first
    | (go_at_call 52; refine Calls.mono HP.out ?_; rintro e w1 ⟨⟨g, rfl, hr⟩, hb⟩; have hW1 := HW.out.below hb; obtain ⟨⟨v, l, hx, ho, hbt, hl, hs⟩, bel⟩ := hW1; have HO : Hid (w1.ownsRow w0.heap.size 5 1 v l.length (cv l)) := ho; have HR : Hid (Row w1 (some ⟨g, 0, none⟩) m) := hr; have HX : Hid (w1.heap[w0.heap.size]? = some (.cells #[v, .bool st.isNone] 60 (0, 0))) := hx; have HS : Hid (∀ L, st = some L → l = L) := hs; have HBL : Hid (Below w0.heap.size w0 w1) := bel; have HBW : Hid (Below w.heap.size w w1) := hb; obtain ⟨a, c, rfl⟩ := own_slice ho; have c0 := (box_at hx 0).1; have c1 := (box_at hx 1).1; have f0 := (box_at hx 0).2; simp only [List.getElem?_toArray, List.getElem?_cons_zero, List.getElem?_cons_succ] at c0 c1; clear hr ho hx hs bel hb)
    | (at_builtin; refine wpList_append_rw (by rfl) _ _ rfl w0.heap.size _ l rfl HO.out (HBL.out.size) (some ⟨g, 0, none⟩) _ _ m rfl HL.out.symm HR.out (fun q => by cases q) (by rw [HL.out]; omega) ?_; intro v' w2 ho2 hg2; obtain ⟨a2, c2, rfl⟩ := own_slice ho2; have hfin := WrS.app HX.out HO.out hbt hl HS.out HBL.out ho2 hg2 HB.out (Nat.le_trans (Nat.add_le_add_left (by rw [HL.out]; omega) _) (Nat.le_refl (N + 8))); have HF : Hid _ := hfin; have f2 : w2.frozen? ⟨w0.heap.size, 0, none⟩ = false := (by have q := (hg2.block w0.heap.size (Array.getElem?_eq_some_iff.1 HX.out).1 (fun e => own_box HO.out HX.out (by decide) _ e.symm rfl)).trans HX.out; exact (box_at q 0).2); have d2 : ∃ u, w2.cell? ⟨w0.heap.size, 0, none⟩ = some u := (by have q := (hg2.block w0.heap.size (Array.getElem?_eq_some_iff.1 HX.out).1 (fun e => own_box HO.out HX.out (by decide) _ e.symm rfl)).trans HX.out; exact ⟨_, (box_at q 0).1⟩); obtain ⟨u2, d2⟩ := d2; clear ho2 hg2 hfin))
  go_end0
  have q := HF.out
  rw [List.length_append] at q
  exact ⟨rfl, q.1, (KeepT.of_below HBW.out).trans q.2⟩

end Go.Proofs.YtaooidckmepdeaaDoor
