/- The last steps of Saw: what was fresh is known. -/
import Derived.Test.YtnnljdnaipjoiaaPl
import Derived.Test.YtnnljdnaipjoiaaNr
namespace Go.Proofs.Ytnnljdnaipjoiaa
set_option linter.unusedSimpArgs false
set_option linter.unusedVariables false
open Go.RowKit Go.MapKept
def logE (p : Nat) (v1 v2 v3 : Option Nat) : List Nat := p :: (v1.toList ++ (v2.toList ++ v3.toList))
structure Sw5 (w : World) (E : List Nat) (p : Nat) (v1 v2 v3 : Option Nat) (S : LS) (bf bb : Nat) (F : SK → Option Rc) (G : TK → Option Int) (y : World) : Prop where
  log : LogIs y p v1 v2 v3 S
  mf : MS y bf F
  mt : MT y bb G
  f1 : v1 ≠ some bf
  f2 : v2 ≠ some bf
  f3 : v3 ≠ some bf
  t1 : v1 ≠ some bb
  t2 : v2 ≠ some bb
  t3 : v3 ≠ some bb
  k : Keeps E w y
  e1 : ∀ b, v1 = some b → b ∈ E ∨ w.heap.size ≤ b
  e2 : ∀ b, v2 = some b → b ∈ E ∨ w.heap.size ≤ b
  e3 : ∀ b, v3 = some b → b ∈ E ∨ w.heap.size ≤ b
  ep : p ∈ E
theorem MOpt.isMap {α : Type} {mk : α → Value} {f : α → Option Value} {w : World} {v : Option Nat} (h : MOpt w v mk f) : ∀ b, v = some b → IsMap w b := by
  rcases h with ⟨rfl, _⟩ | ⟨b, n, rfl, hm⟩
  · intro b e; cases e
  · intro b' e; injection e with e; subst e; exact hm.isMap
theorem LogIs.noMap {w : World} {p : Nat} {v1 v2 v3 : Option Nat} {S : LS} (h : LogIs w p v1 v2 v3 S) {b : Nat} (hb : IsMap w b) : b ≠ p := by
  rintro rfl
  obtain ⟨es, c, e⟩ := hb
  rw [h.box] at e
  cases e
/-- A store into one of the Log's cells, behind a call that turned one map alone: what else stays. -/
theorem turn_other {y z : World} {p i : Nat} {v : Option Nat} {u : Value} (hg : y.grownBy z v) {b : Nat} (hlt : b < y.heap.size) (hv : v ≠ some b) (hp : b ≠ p) : (z.setCell ⟨p, i, none⟩ u).heap[b]? = y.heap[b]? :=
  (heap_setCell_other _ _ _ _ (by simpa using hp)).trans (hg.block b hlt (fun e => hv e.symm))
theorem turn_box {y z : World} {p i : Nat} {v : Option Nat} {u : Value} {cs : Array Value} (hg : y.grownBy z v) (hb : y.heap[p]? = some (.cells cs 59 (0, 0))) (hv : ∀ b, v = some b → b ≠ p) : (z.setCell ⟨p, i, none⟩ u).heap[p]? = some (.cells (cs.setIfInBounds i u) 59 (0, 0)) := by
  have hz : z.heap[p]? = some (.cells cs 59 (0, 0)) := (hg.block p (Array.getElem?_eq_some_iff.1 hb).1 (fun e => hv p e.symm rfl)).trans hb
  exact setCell_heap hz i u
theorem keeps_turn {E : List Nat} {w y z : World} {p i : Nat} {v : Option Nat} {u : Value} (k : Keeps E w y) (hg : y.grownBy z v) (hv : ∀ b, v = some b → b ∈ E ∨ w.heap.size ≤ b) (hp : p ∈ E) : Keeps E w (z.setCell ⟨p, i, none⟩ u) :=
  (k.grown hg (fun x e => hv x e)).setCell _ _ (.inl hp)
/-- The map that with told, behind the store. -/
theorem told_map {α : Type} {mk : α → Value} {f : α → Option Value} {y z : World} {p i bd n : Nat} {u : Value} {cs : Array Value} (hm : MapIs z bd mk f n) (hz : z.heap[p]? = some (.cells cs 59 (0, 0))) : MapIs (z.setCell ⟨p, i, none⟩ u) bd mk f n :=
  hm.blk (heap_setCell_other _ _ _ _ (fun e => by
    obtain ⟨es, c, hb, _⟩ := hm
    simp only at e
    rw [e, hz] at hb
    cases hb))
theorem Sw5.stepP {w y z : World} {E : List Nat} {p : Nat} {v1 v2 v3 : Option Nat} {S : LS} {bf bb : Nat} {F : SK → Option Rc} {G : TK → Option Int} (h : Sw5 w E p v1 v2 v3 S bf bb F G y) {bd : Nat} {N : PK → Option (Int × Int)}
    (hg : y.grownBy z v1) (hm : ∃ n, MapIs z bd mkP (fun x => (N x).map vB) n) (hbd : v1 = some bd ∨ (v1 = none ∧ y.heap.size ≤ bd)) : Sw5 w E p (some bd) v2 v3 { S with bn := N } bf bb F G (z.setCell ⟨p, 0, none⟩ (.map (some bd))) := by
  obtain ⟨n, hm⟩ := hm
  have hv : ∀ b, v1 = some b → b ≠ p := fun b e => h.log.noMap (h.log.m1.isMap b e)
  have hz : z.heap[p]? = some (.cells #[.map v1, .map v2, .map v3] 59 (0, 0)) := (hg.block p h.log.lt (fun e => hv p e.symm rfl)).trans h.log.box
  have ne : ∀ b, v1 ≠ some b → b < y.heap.size → (some bd : Option Nat) ≠ some b := fun b h1 h2 e => by
    injection e with e
    rcases hbd with q | ⟨_, q⟩
    · exact h1 (by rw [q, e])
    · omega
  obtain ⟨n2, hf⟩ := h.mf
  obtain ⟨n3, ht⟩ := h.mt
  refine ⟨⟨turn_box hg h.log.box hv, .inr ⟨bd, n, rfl, told_map (y := y) hm hz⟩, h.log.m2.keep (fun b e => turn_other hg (h.log.m2.lt b e) (fun q => h.log.d12 b q e) (h.log.noMap (h.log.m2.isMap b e))), h.log.m3.keep (fun b e => turn_other hg (h.log.m3.lt b e) (fun q => h.log.d13 b q e) (h.log.noMap (h.log.m3.isMap b e))),
    fun b e q => ne b (fun q1 => h.log.d12 b q1 q) (h.log.m2.lt b q) e, fun b e q => ne b (fun q1 => h.log.d13 b q1 q) (h.log.m3.lt b q) e, h.log.d23⟩,
    ⟨n2, hf.blk (turn_other hg hf.lt h.f1 (h.log.noMap hf.isMap))⟩, ⟨n3, ht.blk (turn_other hg ht.lt h.t1 (h.log.noMap ht.isMap))⟩, ne bf h.f1 hf.lt, h.f2, h.f3, ne bb h.t1 ht.lt, h.t2, h.t3, keeps_turn h.k hg h.e1 h.ep, ?_, h.e2, h.e3, h.ep⟩
  intro b e
  injection e with e
  subst e
  rcases hbd with q | ⟨_, q⟩
  · exact h.e1 _ q
  · exact .inr (Nat.le_trans h.k.size q)
theorem Sw5.stepS {w y z : World} {E : List Nat} {p : Nat} {v1 v2 v3 : Option Nat} {S : LS} {bf bb : Nat} {F : SK → Option Rc} {G : TK → Option Int} (h : Sw5 w E p v1 v2 v3 S bf bb F G y) {bd : Nat} {N : SK → Option Rc}
    (hg : y.grownBy z v2) (hm : ∃ n, MapIs z bd mkS (fun x => (N x).map vR) n) (hbd : v2 = some bd ∨ (v2 = none ∧ y.heap.size ≤ bd)) : Sw5 w E p v1 (some bd) v3 { S with rc := N } bf bb F G (z.setCell ⟨p, 1, none⟩ (.map (some bd))) := by
  obtain ⟨n, hm⟩ := hm
  have hv : ∀ b, v2 = some b → b ≠ p := fun b e => h.log.noMap (h.log.m2.isMap b e)
  have hz : z.heap[p]? = some (.cells #[.map v1, .map v2, .map v3] 59 (0, 0)) := (hg.block p h.log.lt (fun e => hv p e.symm rfl)).trans h.log.box
  have ne : ∀ b, v2 ≠ some b → b < y.heap.size → (some bd : Option Nat) ≠ some b := fun b h1 h2 e => by
    injection e with e
    rcases hbd with q | ⟨_, q⟩
    · exact h1 (by rw [q, e])
    · omega
  obtain ⟨n2, hf⟩ := h.mf
  obtain ⟨n3, ht⟩ := h.mt
  refine ⟨⟨turn_box hg h.log.box hv, h.log.m1.keep (fun b e => turn_other hg (h.log.m1.lt b e) (fun q => h.log.d12 b e q) (h.log.noMap (h.log.m1.isMap b e))), .inr ⟨bd, n, rfl, told_map (y := y) hm hz⟩, h.log.m3.keep (fun b e => turn_other hg (h.log.m3.lt b e) (fun q => h.log.d23 b q e) (h.log.noMap (h.log.m3.isMap b e))),
    fun b e q => ne b (fun q1 => h.log.d12 b e q1) (h.log.m1.lt b e) q, h.log.d13, fun b e q => ne b (fun q1 => h.log.d23 b q1 q) (h.log.m3.lt b q) e⟩,
    ⟨n2, hf.blk (turn_other hg hf.lt h.f2 (h.log.noMap hf.isMap))⟩, ⟨n3, ht.blk (turn_other hg ht.lt h.t2 (h.log.noMap ht.isMap))⟩, h.f1, ne bf h.f2 hf.lt, h.f3, h.t1, ne bb h.t2 ht.lt, h.t3, keeps_turn h.k hg h.e2 h.ep, h.e1, ?_, h.e3, h.ep⟩
  intro b e
  injection e with e
  subst e
  rcases hbd with q | ⟨_, q⟩
  · exact h.e2 _ q
  · exact .inr (Nat.le_trans h.k.size q)
theorem Sw5.stepT {w y z : World} {E : List Nat} {p : Nat} {v1 v2 v3 : Option Nat} {S : LS} {bf bb : Nat} {F : SK → Option Rc} {G : TK → Option Int} (h : Sw5 w E p v1 v2 v3 S bf bb F G y) {bd : Nat} {N : TK → Option Int}
    (hg : y.grownBy z v3) (hm : ∃ n, MapIs z bd mkT (fun x => (N x).map vI) n) (hbd : v3 = some bd ∨ (v3 = none ∧ y.heap.size ≤ bd)) : Sw5 w E p v1 v2 (some bd) { S with bs := N } bf bb F G (z.setCell ⟨p, 2, none⟩ (.map (some bd))) := by
  obtain ⟨n, hm⟩ := hm
  have hv : ∀ b, v3 = some b → b ≠ p := fun b e => h.log.noMap (h.log.m3.isMap b e)
  have hz : z.heap[p]? = some (.cells #[.map v1, .map v2, .map v3] 59 (0, 0)) := (hg.block p h.log.lt (fun e => hv p e.symm rfl)).trans h.log.box
  have ne : ∀ b, v3 ≠ some b → b < y.heap.size → (some bd : Option Nat) ≠ some b := fun b h1 h2 e => by
    injection e with e
    rcases hbd with q | ⟨_, q⟩
    · exact h1 (by rw [q, e])
    · omega
  obtain ⟨n2, hf⟩ := h.mf
  obtain ⟨n3, ht⟩ := h.mt
  refine ⟨⟨turn_box hg h.log.box hv, h.log.m1.keep (fun b e => turn_other hg (h.log.m1.lt b e) (fun q => h.log.d13 b e q) (h.log.noMap (h.log.m1.isMap b e))), h.log.m2.keep (fun b e => turn_other hg (h.log.m2.lt b e) (fun q => h.log.d23 b e q) (h.log.noMap (h.log.m2.isMap b e))), .inr ⟨bd, n, rfl, told_map (y := y) hm hz⟩,
    h.log.d12, fun b e q => ne b (fun q1 => h.log.d13 b e q1) (h.log.m1.lt b e) q, fun b e q => ne b (fun q1 => h.log.d23 b e q1) (h.log.m2.lt b e) q⟩,
    ⟨n2, hf.blk (turn_other hg hf.lt h.f3 (h.log.noMap hf.isMap))⟩, ⟨n3, ht.blk (turn_other hg ht.lt h.t3 (h.log.noMap ht.isMap))⟩, h.f1, h.f2, ne bf h.f3 hf.lt, h.t1, h.t2, ne bb h.t3 ht.lt, keeps_turn h.k hg h.e3 h.ep, h.e1, h.e2, ?_, h.ep⟩
  intro b e
  injection e with e
  subst e
  rcases hbd with q | ⟨_, q⟩
  · exact h.e3 _ q
  · exact .inr (Nat.le_trans h.k.size q)
theorem Sw5.below {w y z : World} {E : List Nat} {p : Nat} {v1 v2 v3 : Option Nat} {S : LS} {bf bb : Nat} {F : SK → Option Rc} {G : TK → Option Int} (h : Sw5 w E p v1 v2 v3 S bf bb F G y) (hb : Below y.heap.size y z) : Sw5 w E p v1 v2 v3 S bf bb F G z := by
  obtain ⟨n2, hf⟩ := h.mf
  obtain ⟨n3, ht⟩ := h.mt
  exact ⟨h.log.below hb, ⟨n2, hf.below hb⟩, ⟨n3, ht.below hb⟩, h.f1, h.f2, h.f3, h.t1, h.t2, h.t3, h.k.trans (Keeps.of_below hb []) (by simp), h.e1, h.e2, h.e3, h.ep⟩
/-- What Saw tells and leaves. -/
def SawP (w : World) (p : Nat) (v1 v2 v3 : Option Nat) (r : Int × LS) (e : Ending) (w' : World) : Prop :=
  ∃ u1 u2 u3, e = .returned (.int .i64 r.1) ∧ LogIs w' p u1 u2 u3 r.2 ∧ Keeps (logE p v1 v2 v3) w w' ∧ ∀ b, b ∈ logE p u1 u2 u3 → b ∈ logE p v1 v2 v3 ∨ w.heap.size ≤ b
theorem SawP.stay {w w' : World} {p : Nat} {v1 v2 v3 : Option Nat} {S : LS} {r : Int × LS} {n : Int} (h : LogIs w p v1 v2 v3 S) (hr : r = (n, S)) (hb : Below w.heap.size w w') : SawP w p v1 v2 v3 r (.returned (.int .i64 n)) w' := by
  subst hr
  exact ⟨v1, v2, v3, rfl, h.below hb, Keeps.of_below hb _, fun b hb => .inl hb⟩
theorem mem_logE {p : Nat} {v1 v2 v3 : Option Nat} {b : Nat} : b ∈ logE p v1 v2 v3 ↔ b = p ∨ v1 = some b ∨ v2 = some b ∨ v3 = some b := by
  simp [logE, Option.mem_toList]
theorem Sw5.done {w y : World} {p : Nat} {v1 v2 v3 u1 u2 u3 : Option Nat} {S : LS} {bf bb : Nat} {F : SK → Option Rc} {G : TK → Option Int} (h : Sw5 w (logE p v1 v2 v3) p u1 u2 u3 S bf bb F G y) {r : Int × LS} (hr : r = (0, S)) : SawP w p v1 v2 v3 r (.returned (.int .i64 0)) y := by
  subst hr
  refine ⟨u1, u2, u3, rfl, h.log, h.k, fun b hb => ?_⟩
  rcases mem_logE.1 hb with rfl | e | e | e
  · exact .inl h.ep
  · exact h.e1 b e
  · exact h.e2 b e
  · exact h.e3 b e
theorem box_turn {y z : World} {p : Nat} {v1 v2 v3 v : Option Nat} {S : LS} (h : LogIs y p v1 v2 v3 S) (hg : y.grownBy z v) (hv : ∀ b, v = some b → IsMap y b) : z.heap[p]? = some (.cells #[.map v1, .map v2, .map v3] 59 (0, 0)) :=
  (hg.block p h.lt (fun e => h.noMap (hv p e.symm) rfl)).trans h.box
theorem Sw5.call30 {w y : World} {E : List Nat} {p : Nat} {v1 v2 v3 : Option Nat} {S : LS} {bf bb : Nat} {F : SK → Option Rc} {G : TK → Option Int} (h : Sw5 w E p v1 v2 v3 S bf bb F G y) {m n : Nat} {q : PK} {st nx : Int} (hm : MapIs y m mkP (put (fun _ => none) q (vB (st, nx))) n) (hne : v1 ≠ some m) :
    Calls Try.prog 30 #[.map v1, .map (some m)] y fun e z => ∃ bd, e = .returned (.map (some bd)) ∧ z.heap[p]? = some (.cells #[.map v1, .map v2, .map v3] 59 (0, 0)) ∧ y.grownBy z v1 ∧ Sw5 w E p (some bd) v2 v3 { S with bn := fun x => if x = q then some (st, nx) else S.bn x } bf bb F G (z.setCell ⟨p, 0, none⟩ (.map (some bd))) := by
  refine (withP_any v1 m n (fun x => (S.bn x).map vB) (put (fun _ => none) q (vB (st, nx))) y h.log.m1 hm (fun c v e => ?_) hne).mono fun e z ⟨bd, e1, ⟨k, e2⟩, e3, e4⟩ => ⟨bd, e1, box_turn h.log e4 (h.log.m1.isMap), e4, h.stepP e4 ⟨k, ?_⟩ e3⟩
  · unfold put at e
    split at e
    · injection e with e; exact ⟨(st, nx), e.symm⟩
    · cases e
  · have : (fun x => (put (fun _ => none) q (vB (st, nx)) x).or ((S.bn x).map vB)) = fun x => ((if x = q then some (st, nx) else S.bn x)).map vB := by
      funext x
      unfold put
      by_cases e : x = q
      · rw [if_pos e, if_pos e]; rfl
      · rw [if_neg e, if_neg e]; rfl
    rw [this] at e2
    exact e2
theorem Sw5.call31 {w y : World} {E : List Nat} {p : Nat} {v1 v2 v3 : Option Nat} {S : LS} {bf bb : Nat} {F : SK → Option Rc} {G : TK → Option Int} (h : Sw5 w E p v1 v2 v3 S bf bb F G y) :
    Calls Try.prog 31 #[.map v2, .map (some bf)] y fun e z => ∃ bd, e = .returned (.map (some bd)) ∧ z.heap[p]? = some (.cells #[.map v1, .map v2, .map v3] 59 (0, 0)) ∧ Sw5 w E p v1 (some bd) v3 { S with rc := fun x => (F x).or (S.rc x) } bf bb F G (z.setCell ⟨p, 1, none⟩ (.map (some bd))) := by
  obtain ⟨n, hf⟩ := h.mf
  refine (withS_any v2 bf n (fun x => (S.rc x).map vR) (fun x => (F x).map vR) y h.log.m2 hf (fun c v e => ?_) h.f2).mono fun e z ⟨bd, e1, ⟨k, e2⟩, e3, e4⟩ => ⟨bd, e1, box_turn h.log e4 (h.log.m2.isMap), h.stepS e4 ⟨k, ?_⟩ e3⟩
  · obtain ⟨u, _, e⟩ := Option.map_eq_some_iff.1 e
    exact ⟨u, e.symm⟩
  · simp only [or_map] at e2
    exact e2
theorem Sw5.call32 {w y : World} {E : List Nat} {p : Nat} {v1 v2 v3 : Option Nat} {S : LS} {bf bb : Nat} {F : SK → Option Rc} {G : TK → Option Int} (h : Sw5 w E p v1 v2 v3 S bf bb F G y) :
    Calls Try.prog 32 #[.map v3, .map (some bb)] y fun e z => ∃ bd, e = .returned (.map (some bd)) ∧ z.heap[p]? = some (.cells #[.map v1, .map v2, .map v3] 59 (0, 0)) ∧ Sw5 w E p v1 v2 (some bd) { S with bs := fun x => (G x).or (S.bs x) } bf bb F G (z.setCell ⟨p, 2, none⟩ (.map (some bd))) := by
  obtain ⟨n, hf⟩ := h.mt
  refine (withT_any v3 bb n (fun x => (S.bs x).map vI) (fun x => (G x).map vI) y h.log.m3 hf (fun c v e => ?_) h.t3).mono fun e z ⟨bd, e1, ⟨k, e2⟩, e3, e4⟩ => ⟨bd, e1, box_turn h.log e4 (h.log.m3.isMap), h.stepT e4 ⟨k, ?_⟩ e3⟩
  · obtain ⟨u, _, e⟩ := Option.map_eq_some_iff.1 e
    exact ⟨u, e.symm⟩
  · simp only [or_map] at e2
    exact e2
theorem Sw5.start {w y3 y4 y : World} {p : Nat} {v1 v2 v3 : Option Nat} {S : LS} {bf bb : Nat} {F : SK → Option Rc} {G : TK → Option Int} (h3 : LogIs y3 p v1 v2 v3 S) (h4 : LogIs y4 p v1 v2 v3 S) (hbf : y3.heap.size ≤ bf) (hbb : y4.heap.size ≤ bb) (hl : LogIs y p v1 v2 v3 S) (hmf : MS y bf F) (hmt : MT y bb G) (hb : Below w.heap.size w y) : Sw5 w (logE p v1 v2 v3) p v1 v2 v3 S bf bb F G y := by
  refine ⟨hl, hmf, hmt, ?_, ?_, ?_, ?_, ?_, ?_, Keeps.of_below hb _, fun b e => .inl (mem_logE.2 (.inr (.inl e))), fun b e => .inl (mem_logE.2 (.inr (.inr (.inl e)))), fun b e => .inl (mem_logE.2 (.inr (.inr (.inr e)))), mem_logE.2 (.inl rfl)⟩
  · intro e; have := h3.m1.lt _ e; omega
  · intro e; have := h3.m2.lt _ e; omega
  · intro e; have := h3.m3.lt _ e; omega
  · intro e; have := h4.m1.lt _ e; omega
  · intro e; have := h4.m2.lt _ e; omega
  · intro e; have := h4.m3.lt _ e; omega
end Go.Proofs.Ytnnljdnaipjoiaa
