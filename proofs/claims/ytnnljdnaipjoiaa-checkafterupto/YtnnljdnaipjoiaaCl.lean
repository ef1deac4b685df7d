/- While the document's Saw runs: facts and sents so far; the stores at its end. -/
import Derived.Test.YtnnljdnaipjoiaaCk
namespace Go.Proofs.Ytnnljdnaipjoiaa
set_option linter.unusedSimpArgs false
set_option linter.unusedVariables false
open Go.RowKit
section
variable {B p : Nat} {w y z : World} {vF vS vP : Value} {FL : List (SK × Rc)} {SL : List (TK × Int)} {PL : List (PK × (Int × Int))} {S : LS}
/-- The facts so far. -/
structure FSt (B : Nat) (w : World) (p : Nat) (vF vS vP : Value) (FL : List (SK × Rc)) (SL : List (TK × Int)) (PL : List (PK × (Int × Int))) (S : LS) (ks : List (SK × Rc)) (v : Value) (L : List (SK × Rc)) (f : SK → Option Rc) (y : World) : Prop where
  old : Chk B y p vF vS vP FL SL PL S
  cur : y.ownsRow B 91 9 v L.length (rowv cF L)
  len : FL.length ≤ L.length
  cnt : L.length ≤ FL.length + ks.length
  rep : RepF L S.rc f
  ag : agrs sameR S.rc ks (fun _ => none) = some f
  keep : MKeep B w y
theorem FSt.start (h : Chk B y p vF vS vP FL SL PL S) (k : MKeep B w y) : FSt B w p vF vS vP FL SL PL S [] vF FL (fun _ => none) y :=
  ⟨h, h.oF, Nat.le_refl _, by simp, RepF.start h.dF h.fF, rfl, k⟩
variable {ks : List (SK × Rc)} {v v' : Value} {L : List (SK × Rc)} {f : SK → Option Rc}
theorem FSt.below (h : FSt B w p vF vS vP FL SL PL S ks v L f y) (hb : Below y.heap.size y z) : FSt B w p vF vS vP FL SL PL S ks v L f z :=
  ⟨h.old.below hb, own_below h.cur hb, h.len, h.cnt, h.rep, h.ag, h.keep.trans (MKeep.of_below hb)⟩
theorem agrs_snoc {κ ν : Type} [DecidableEq κ] (e : ν → ν → Bool) (K : κ → Option ν) (ks : List (κ × ν)) (k : κ) (r : ν) {f0 f : κ → Option ν} (h : agrs e K ks f0 = some f) : agrs e K (ks ++ [(k, r)]) f0 = agr e K f k r := by
  rw [agrs_app, h]
  exact agrs_one _ _ _ _ _
theorem FSt.met (h : FSt B w p vF vS vP FL SL PL S ks v L f y) {k : SK} {r : Rc} (hu : asF L k = some r) : FSt B w p vF vS vP FL SL PL S (ks ++ [(k, r)]) v L f y :=
  ⟨h.old, h.cur, h.len, by have := h.cnt; rw [List.length_append]; omega, h.rep, by rw [agrs_snoc _ _ _ _ _ h.ag, h.rep.met sameR r hu, if_pos (sameR_self r)], h.keep⟩
theorem FSt.no (h : FSt B w p vF vS vP FL SL PL S ks v L f y) {k : SK} {r u : Rc} (hu : asF L k = some u) (hne : u ≠ r) : agrs sameR S.rc (ks ++ [(k, r)]) (fun _ => none) = none := by
  rw [agrs_snoc _ _ _ _ _ h.ag, h.rep.met sameR r hu, if_neg (fun e => hne (sameR_iff.1 e))]
theorem FSt.new (h : FSt B w p vF vS vP FL SL PL S ks v L f y) {k : SK} {r : Rc} (hu : asF L k = none) (ha : ApK 9 B 91 y v L.length (rowv cF L) (cF (k, r)) v' z) : ∃ f', FSt B w p vF vS vP FL SL PL S (ks ++ [(k, r)]) v' (L ++ [(k, r)]) f' z := by
  obtain ⟨e1, e2⟩ := h.rep.new sameR r hu
  refine ⟨_, h.old.appF h.cur h.len ha, ?_, by have := h.len; rw [List.length_append]; omega, by have := h.cnt; rw [List.length_append, List.length_append]; simp; omega, e2, by rw [agrs_snoc _ _ _ _ _ h.ag]; exact e1, h.keep.step ha.2.1 (own_mine h.cur (.inr (.inr (.inl rfl))))⟩
  rw [List.length_append, rowv_app]
  have := ha.1
  simpa [rowv] using this
/-- The sents so far, behind all facts. -/
structure SSt (B : Nat) (w : World) (p : Nat) (vF vS vP : Value) (FL : List (SK × Rc)) (SL : List (TK × Int)) (PL : List (PK × (Int × Int))) (S : LS) (vf : Value) (L : List (SK × Rc)) (f : SK → Option Rc) (ks : List (TK × Int)) (v : Value) (M : List (TK × Int)) (g : TK → Option Int) (y : World) : Prop where
  old : Chk B y p vF vS vP FL SL PL S
  curF : y.ownsRow B 91 9 vf L.length (rowv cF L)
  repF : RepF L S.rc f
  cur : y.ownsRow B 93 5 v M.length (rowv cS M)
  len : SL.length ≤ M.length
  cnt : M.length ≤ SL.length + ks.length
  rep : RepF M S.bs g
  ag : agrs sameI S.bs ks (fun _ => none) = some g
  keep : MKeep B w y
theorem SSt.start (h : FSt B w p vF vS vP FL SL PL S ks v L f y) : SSt B w p vF vS vP FL SL PL S v L f [] vS SL (fun _ => none) y :=
  ⟨h.old, h.cur, h.rep, h.old.oS, Nat.le_refl _, by simp, RepF.start h.old.dS h.old.fS, rfl, h.keep⟩
variable {kt : List (TK × Int)} {u u' : Value} {M : List (TK × Int)} {g : TK → Option Int}
theorem SSt.below (h : SSt B w p vF vS vP FL SL PL S v L f kt u M g y) (hb : Below y.heap.size y z) : SSt B w p vF vS vP FL SL PL S v L f kt u M g z :=
  ⟨h.old.below hb, own_below h.curF hb, h.repF, own_below h.cur hb, h.len, h.cnt, h.rep, h.ag, h.keep.trans (MKeep.of_below hb)⟩
theorem SSt.met (h : SSt B w p vF vS vP FL SL PL S v L f kt u M g y) {k : TK} {r : Int} (hu : asF M k = some r) : SSt B w p vF vS vP FL SL PL S v L f (kt ++ [(k, r)]) u M g y :=
  ⟨h.old, h.curF, h.repF, h.cur, h.len, by have := h.cnt; rw [List.length_append]; omega, h.rep, by rw [agrs_snoc _ _ _ _ _ h.ag, h.rep.met sameI r hu, if_pos (by simp [sameI])], h.keep⟩
theorem SSt.no (h : SSt B w p vF vS vP FL SL PL S v L f kt u M g y) {k : TK} {r x : Int} (hu : asF M k = some x) (hne : x ≠ r) : agrs sameI S.bs (kt ++ [(k, r)]) (fun _ => none) = none := by
  rw [agrs_snoc _ _ _ _ _ h.ag, h.rep.met sameI r hu, if_neg (by simp [sameI, hne])]
theorem SSt.new (h : SSt B w p vF vS vP FL SL PL S v L f kt u M g y) {k : TK} {r : Int} (hu : asF M k = none) (ha : ApK 5 B 93 y u M.length (rowv cS M) (cS (k, r)) u' z) : ∃ g', SSt B w p vF vS vP FL SL PL S v L f (kt ++ [(k, r)]) u' (M ++ [(k, r)]) g' z := by
  obtain ⟨e1, e2⟩ := h.rep.new sameI r hu
  refine ⟨_, h.old.appS h.cur h.len ha, h.curF.kept ha.2.1 (own_apart h.curF h.cur (by decide)), h.repF, ?_, by have := h.len; rw [List.length_append]; omega, by have := h.cnt; rw [List.length_append, List.length_append]; simp; omega, e2, by rw [agrs_snoc _ _ _ _ _ h.ag]; exact e1, h.keep.step ha.2.1 (own_mine h.cur (.inr (.inr (.inr rfl))))⟩
  rw [List.length_append, rowv_app]
  have := ha.1
  simpa [rowv] using this
/-- The stores at the end. -/
theorem own_setBox {T s n : Nat} {xs : List Value} (h : y.ownsRow B T s v n xs) {cs : Array Value} (hp : y.heap[p]? = some (.cells cs 32 (0, 0))) (hT : T ≠ 32) (i : Nat) (x : Value) : (y.setCell ⟨p, i, none⟩ x).ownsRow B T s v n xs :=
  h.kept (row := some p) ⟨rfl, rfl, rfl, by simp [World.setCell], fun k _ hk => Below.heap_setCell _ _ _ _ (fun e => hk (by rw [e]))⟩ (.inr (own_box h hp hT))
theorem Chk.setF (h : Chk B y p vF vS vP FL SL PL S) (hc : y.ownsRow B 91 9 v L.length (rowv cF L)) (hd : Dist L) {K : SK → Option Rc} (hf : ∀ x, asF L x = K x) : Chk B (y.setCell ⟨p, 0, none⟩ v) p v vS vP L SL PL { S with rc := K } :=
  ⟨setCell_heap h.box 0 v, h.hp, own_setBox hc h.box (by decide) _ _, own_setBox h.oS h.box (by decide) _ _, own_setBox h.oP h.box (by decide) _ _, hd, h.dS, h.dP, hf, h.fS, h.fP⟩
theorem Chk.setS (h : Chk B y p vF vS vP FL SL PL S) (hc : y.ownsRow B 93 5 u M.length (rowv cS M)) (hd : Dist M) {K : TK → Option Int} (hf : ∀ x, asF M x = K x) : Chk B (y.setCell ⟨p, 1, none⟩ u) p vF u vP FL M PL { S with bs := K } :=
  ⟨setCell_heap h.box 1 u, h.hp, own_setBox h.oF h.box (by decide) _ _, own_setBox hc h.box (by decide) _ _, own_setBox h.oP h.box (by decide) _ _, h.dF, hd, h.dP, h.fF, hf, h.fP⟩
theorem MKeep.setBox (k : MKeep B w y) {cs : Array Value} (hp : y.heap[p]? = some (.cells cs 32 (0, 0))) (hB : B ≤ p) (i : Nat) (x : Value) : MKeep B w (y.setCell ⟨p, i, none⟩ x) :=
  k.step (r := some p) ⟨rfl, rfl, rfl, by simp [World.setCell], fun k _ hk => Below.heap_setCell _ _ _ _ (fun e => hk (by rw [e]))⟩ (fun b e => by
    injection e with e
    subst e
    exact ⟨hB, _, _, _, hp, .inl rfl⟩)
/-- A span more. -/
theorem Chk.appP (h : Chk B y p vF vS vP FL SL PL S) {q : PK} {x : Int × Int} (hn : asF PL q = none) (ha : ApK 4 B 88 y vP PL.length (rowv cP PL) (cP (q, x)) u z) :
    Chk B (z.setCell ⟨p, 2, none⟩ u) p vF vS u FL SL (PL ++ [(q, x)]) { S with bn := fun k => if k = q then some x else S.bn k } := by
  have hz : z.heap[p]? = some (.cells #[vF, vS, vP] 32 (0, 0)) := (ha.2.1.block p h.lt (fun e => own_box h.oP h.box (by decide) e.symm)).trans h.box
  refine ⟨setCell_heap hz 2 u, h.hp, own_setBox (h.oF.kept ha.2.1 (own_apart h.oF h.oP (by decide))) hz (by decide) _ _, own_setBox (h.oS.kept ha.2.1 (own_apart h.oS h.oP (by decide))) hz (by decide) _ _, own_setBox ?_ hz (by decide) _ _, h.dF, h.dS, h.dP.snoc x hn, h.fF, h.fS, fun k => ?_⟩
  · rw [List.length_append, rowv_app]
    have := ha.1
    simpa [rowv] using this
  · rw [asF_app, asF_one, h.fP]
    by_cases e : k = q
    · subst e
      rw [if_pos rfl, ← h.fP, hn]
      show some x = if k = k then some x else _
      rw [if_pos rfl]
    · rw [if_neg (fun c => e c.symm)]
      show (S.bn k).or none = if k = q then some x else S.bn k
      rw [if_neg e]
      cases S.bn k <;> rfl
theorem rowv_set {α : Type} (c : α → List Value) (s : Nat) (hc : ∀ a, (c a).length = s) : ∀ (l : List α) (i j : Nat) (a b : α) (x : Value), l[i]? = some a → j < s → (c a).set j x = c b → (rowv c l).set (i * s + j) x = rowv c (l.set i b)
  | [], i, j, a, b, x, h, _, _ => by simp at h
  | y :: r, 0, j, a, b, x, h, hj, e => by
    simp only [List.getElem?_cons_zero, Option.some.injEq] at h
    subst h
    rw [rowv_cons, Nat.zero_mul, Nat.zero_add, List.set_append_left _ _ (by rw [hc]; exact hj), e]
    rfl
  | y :: r, i + 1, j, a, b, x, h, hj, e => by
    rw [rowv_cons, List.set_append_right _ _ (by rw [hc, Nat.succ_mul]; omega), hc, show (i + 1) * s + j - s = i * s + j by rw [Nat.succ_mul]; omega, rowv_set c s hc r i j a b x (by simpa using h) hj e]
    rfl
/-- A span that turns at its place. -/
theorem Chk.turnP {gb cp : Nat} (h : Chk B y p vF vS (.slice (some ⟨gb, 0, none⟩) PL.length cp) FL SL PL S) {q : PK} {j : Nat} {x0 : Int × Int} (hj : PL[j]? = some (q, x0)) (a b : Int) :
    Chk B ((y.setCell ⟨gb, j * 4 + 2, none⟩ (.int .i64 a)).setCell ⟨gb, j * 4 + 3, none⟩ (.int .i64 b)) p vF vS (.slice (some ⟨gb, 0, none⟩) PL.length cp) FL SL (PL.set j (q, (a, b))) { S with bn := fun k => if k = q then some (a, b) else S.bn k } ∧ y.grownBy ((y.setCell ⟨gb, j * 4 + 2, none⟩ (.int .i64 a)).setCell ⟨gb, j * 4 + 3, none⟩ (.int .i64 b)) (some gb) := by
  obtain ⟨h1, g1⟩ := World.ownsRow.stored h.oP (j * 4 + 2) (.int .i64 a)
  obtain ⟨h2, g2⟩ := World.ownsRow.stored h1 (j * 4 + 3) (.int .i64 b)
  have hg := grown_trans g1 g2
  have hjl : j < PL.length := (List.getElem?_eq_some_iff.1 hj).1
  have e1 := rowv_set cP 4 cP_len PL j 2 (q, x0) (q, (a, x0.2)) (.int .i64 a) hj (by decide) rfl
  have e2 := rowv_set cP 4 cP_len (PL.set j (q, (a, x0.2))) j 3 (q, (a, x0.2)) (q, (a, b)) (.int .i64 b) (by rw [List.getElem?_set]; simp [hjl]) (by decide) rfl
  rw [e1, e2, List.set_set] at h2
  have hne : (Value.slice (some ⟨gb, 0, none⟩) PL.length cp).ownBlock = some gb := rfl
  have hoF := own_apart h.oF h.oP (by decide)
  have hoS := own_apart h.oS h.oP (by decide)
  rw [hne] at hoF hoS
  refine ⟨⟨(hg.block p h.lt (fun e => own_box h.oP h.box (by decide) e.symm)).trans h.box, h.hp, h.oF.kept hg hoF, h.oS.kept hg hoS, by rw [List.length_set]; exact h2, h.dF, h.dS, h.dP.set hj (a, b), h.fF, h.fS, fun k => ?_⟩, hg⟩
  rw [asF_set h.dP hj (a, b) k, h.fP]
end
/-- What the document's Saw tells and leaves. -/
def MSaw (B p N : Nat) (w : World) (r : Int × LS) (e : Ending) (z : World) : Prop := e = .returned (.int .i64 r.1) ∧ CkS B p N r.2 z ∧ MKeep B w z
end Go.Proofs.Ytnnljdnaipjoiaa
