/- The document's own Feed. -/
import Derived.Test.YthbomgjjdmogpaaRf
import Derived.Test.YthbomgjjdmogpaaRg
namespace Go.Proofs.Ythbomgjjdmogpaa
set_option linter.unusedSimpArgs false
set_option linter.unusedVariables false
open Go.RowKit
/-- The document's Feeder in block pm: what waits, and whether it is over. -/
structure MIs (w : World) (pm : Nat) (a : Option Addr) (c : Nat) (q : List Nat) (sh : Bool) : Prop where
  box : w.heap[pm]? = some (.cells #[.slice a q.length c, .bool sh] 29 (0, 0))
  row : InE w [pm] a c q
  off : sh = true → a = none ∧ q = []
theorem box2_cells {w : World} {pm : Nat} {u v : Value} (h : w.heap[pm]? = some (.cells #[u, v] 29 (0, 0))) : w.cell? ⟨pm, 0, none⟩ = some u ∧ w.cell? ⟨pm, 1, none⟩ = some v ∧ ∀ i, w.frozen? ⟨pm, i, none⟩ = false := by
  have hc : ∀ j, w.cell? ⟨pm, j, none⟩ = (#[u, v] : Array Value)[j]? := fun j => cell_of_row _ pm j _ 29 (0, 0) h
  exact ⟨by rw [hc]; rfl, by rw [hc]; rfl, fun i => by simp [World.frozen?, h]⟩
theorem set2_0 {w : World} {pm : Nat} {u v : Value} (h : w.heap[pm]? = some (.cells #[u, v] 29 (0, 0))) (x : Value) : (w.setCell ⟨pm, 0, none⟩ x).heap[pm]? = some (.cells #[x, v] 29 (0, 0)) := by
  rw [setCell_heap h]; rfl
theorem set2_1 {w : World} {pm : Nat} {u v : Value} (h : w.heap[pm]? = some (.cells #[u, v] 29 (0, 0))) (x : Value) : (w.setCell ⟨pm, 1, none⟩ x).heap[pm]? = some (.cells #[u, x] 29 (0, 0)) := by
  rw [setCell_heap h]; rfl
/-- Behind the document's Feed. -/
def FDM (w : World) (pm : Nat) (r : List (List Nat) × Bool × List Nat) (e : Ending) (w' : World) : Prop :=
  ∃ T fs a' c', e = .returned (.tuple #[T, .bool r.2.1]) ∧ w'.ownsRow w.heap.size 23 1 T fs.length (fs.map Fr.v) ∧ fs.map (·.b) = r.1 ∧ AllF w' [pm] fs ∧ MIs w' pm a' c' r.2.2 (!r.2.1) ∧ Keeps [pm] w w' ∧ ∀ y, a' = some y → w.heap.size ≤ y.block
/-- What its loop keeps. -/
structure ML (w : World) (pm : Nat) (r : List (List Nat) × Bool × List Nat) (x : World) (X : List Nat) (a : Option Addr) (c : Nat) (T : Value) (fs : List Fr) : Prop where
  box : x.heap[pm]? = some (.cells #[.slice a X.length c, .bool false] 29 (0, 0))
  le : X.length ≤ c
  max : c ≤ maxLen
  nil : a = none → c = 0
  all : AllF x [pm] (⟨a, c, X⟩ :: fs)
  owns : x.ownsRow w.heap.size 23 1 T fs.length (fs.map Fr.v)
  keep : Keeps [pm] w x
  new : ∀ y, a = some y → w.heap.size ≤ y.block
  eq : r = (fs.map (·.b) ++ (frames X).1, (frames X).2)
theorem ML.ine {w : World} {pm : Nat} {r : List (List Nat) × Bool × List Nat} {x : World} {X : List Nat} {a : Option Addr} {c : Nat} {T : Value} {fs : List Fr} (h : ML w pm r x X a c T fs) : InE x [pm] a c X :=
  ⟨(h.all ⟨a, c, X⟩ (by simp)).1, h.le, h.max, h.nil, fun _ y hy => ((h.all ⟨a, c, X⟩ (by simp)).2 y hy).1⟩
/-- Nothing more can be told. -/
theorem ML.rest {w : World} {pm : Nat} {r : List (List Nat) × Bool × List Nat} {x : World} {X : List Nat} {a : Option Addr} {c : Nat} {T : Value} {fs : List Fr} (h : ML w pm r x X a c T fs) (hr : Rest X) : FDM w pm r (.returned (.tuple #[T, .bool true])) x := by
  have e := h.eq
  rw [hr] at e
  simp only [List.append_nil] at e
  subst e
  exact ⟨T, fs, a, c, rfl, h.owns, rfl, fun f hf => h.all f (by simp [hf]), ⟨h.box, h.ine, fun e => by cases e⟩, h.keep, h.new⟩
theorem ML.bad {w : World} {pm : Nat} {r : List (List Nat) × Bool × List Nat} {x : World} {X : List Nat} {a : Option Addr} {c : Nat} {T : Value} {fs : List Fr} (h : ML w pm r x X a c T fs) (h4 : 4 ≤ X.length) (hb : 8192 < be X) : FDM w pm r (.returned (.tuple #[T, .bool false])) ((x.setCell ⟨pm, 1, none⟩ (.bool true)).setCell ⟨pm, 0, none⟩ (.slice none 0 0)) := by
  have e := h.eq
  rw [frames_bad h4 hb] at e
  simp only [List.append_nil] at e
  subst e
  have hk : Keeps [pm] x ((x.setCell ⟨pm, 1, none⟩ (.bool true)).setCell ⟨pm, 0, none⟩ (.slice none 0 0)) := ((Keeps.refl _ _).setCell ⟨pm, 1, none⟩ _ (.inl (by simp))).setCell ⟨pm, 0, none⟩ _ (.inl (by simp))
  have hall : AllF x [pm] fs := fun f hf => h.all f (by simp [hf])
  refine ⟨T, fs, none, 0, rfl, hk.owns h.owns (fun y hy hm => ?_), rfl, hall.keeps hk (fun y hy => .inl hy), ⟨set2_0 (set2_1 h.box _) _, ⟨Row.nil _ _, by simp, by unfold maxLen; omega, fun _ => rfl, fun h0 => by simp at h0⟩, fun _ => ⟨rfl, rfl⟩⟩, h.keep.trans hk (fun y hy => .inl hy), fun y hy => by cases hy⟩
  simp at hm
  subst hm
  exact row_box h.owns h.box (by decide) _ hy rfl
theorem ML.next {w : World} {pm : Nat} {r : List (List Nat) × Bool × List Nat} {x x2 x3 : World} {X : List Nat} {a : Option Addr} {c : Nat} {T : Value} {fs : List Fr} (h : ML w pm r x X a c T fs) (hb : be X ≤ 8192) (hl : 4 + be X ≤ X.length)
    {v : Value} {T' : Value} {o : Obj} (ho : x2.ownsRow x.heap.size 5 1 v ((X.drop 4).take (be X)).length (cv ((X.drop 4).take (be X)))) (hb2 : Below x.heap.size x x2)
    {ga : Option Addr} {gc : Nat} (hv : v = .slice ga ((X.drop 4).take (be X)).length gc) (hT : x3.ownsRow w.heap.size 23 1 T' (fs ++ [(⟨ga, gc, (X.drop 4).take (be X)⟩ : Fr)]).length ((fs ++ [(⟨ga, gc, (X.drop 4).take (be X)⟩ : Fr)]).map Fr.v)) (hg : (x2.alloc o).grownBy x3 T.ownBlock) :
    ML w pm r (x3.setCell ⟨pm, 0, none⟩ (.slice (cutA a c (4 + be X)) (X.length - (4 + be X)) (c - (4 + be X)))) (X.drop (4 + be X)) (cutA a c (4 + be X)) (c - (4 + be X)) T' (fs ++ [(⟨ga, gc, (X.drop 4).take (be X)⟩ : Fr)]) := by
  have hs := h.keep.size
  have hpm : pm < x.heap.size := (Array.getElem?_eq_some_iff.1 h.box).1
  have hk2 : Keeps [] x (x2.alloc o) := (Keeps.of_below hb2 []).alloc o
  have hTb : ∀ y, T.ownBlock = some y → y < x.heap.size := fun y hy => (h.owns.lt y hy).2
  have hk3 : Keeps T.ownBlock.toList x x3 := Keeps.grown (hk2.mono (by simp)) hg (fun y e => .inl (by simpa using e))
  have hne : ∀ y, T.ownBlock = some y → y ≠ pm := row_box h.owns h.box (by decide)
  have hbox3 : x3.heap[pm]? = some (.cells #[.slice a X.length c, .bool false] 29 (0, 0)) := by
    rw [hk3.block pm hpm (fun hm => hne pm (by simpa using hm) rfl)]; exact h.box
  have hk4 : Keeps [pm] x3 (x3.setCell ⟨pm, 0, none⟩ (.slice (cutA a c (4 + be X)) (X.length - (4 + be X)) (c - (4 + be X)))) := (Keeps.refl _ _).setCell ⟨pm, 0, none⟩ _ (.inl (by simp))
  have hk5 : Keeps (T.ownBlock.toList ++ [pm]) x (x3.setCell ⟨pm, 0, none⟩ (.slice (cutA a c (4 + be X)) (X.length - (4 + be X)) (c - (4 + be X)))) := (hk3.mono (fun y hy => .inl (List.mem_append.2 (.inl hy)))).trans hk4 (fun y hy => .inl (List.mem_append.2 (.inr hy)))
  have hall : AllF x (T.ownBlock.toList ++ [pm]) (⟨a, c, X⟩ :: fs) := by
    rcases h.owns.2 with ⟨e, _⟩ | ⟨g, cp, cur, e, _, hgg, _⟩
    · subst e; exact h.all
    · subst e; exact h.all.more hgg (by decide)
  have hall5 := (hall.keeps hk5 (fun y hy => .inl hy)).less (F := [pm]) (fun y hy => .inl (List.mem_append.2 (.inr hy)))
  have hlt : ∀ i, ((X.drop 4).take (be X)).getD i 0 < 256 := fun i => by
    have h1 := (h.all ⟨a, c, X⟩ (by simp)).1.lt
    by_cases hi : i < be X
    · have e : ((X.drop 4).take (be X)).getD i 0 = X.getD (4 + i) 0 := by simp [List.getD, List.getElem?_take, hi]
      rw [e]; exact h1 _
    · rw [getD_out _ _ (by rw [List.length_take]; omega)]; omega
  have hnewA : AllF x2 [pm] [(⟨ga, gc, (X.drop 4).take (be X)⟩ : Fr)] := by
    intro f hf
    simp only [List.mem_singleton] at hf
    subst hf
    subst hv
    obtain ⟨a', c', e, hr, _⟩ := owns_row ho hlt
    injection e with e1 e2 e3
    subst e1
    refine ⟨hr, fun y hy => ?_⟩
    rcases ho.2 with ⟨e, _⟩ | ⟨g', cp, cur, e, hB, hgg, _⟩
    · injection e with e1; rw [e1] at hy; cases hy
    · injection e with e1
      rw [e1] at hy
      injection hy with hy
      subst hy
      exact ⟨by simp; omega, cur, hgg⟩
  have hnew5 : AllF (x3.setCell ⟨pm, 0, none⟩ (.slice (cutA a c (4 + be X)) (X.length - (4 + be X)) (c - (4 + be X)))) [pm] [(⟨ga, gc, (X.drop 4).take (be X)⟩ : Fr)] := by
    have hT2 : x2.ownsRow w.heap.size 23 1 T fs.length (fs.map Fr.v) := owns_below h.owns hb2
    have h1 : AllF x2 (T.ownBlock.toList ++ [pm]) [(⟨ga, gc, (X.drop 4).take (be X)⟩ : Fr)] := by
      rcases hT2.2 with ⟨e, _⟩ | ⟨g, cp, cur, e, _, hgg, _⟩
      · subst e; exact hnewA
      · subst e; exact hnewA.more hgg (by decide)
    have hk : Keeps (T.ownBlock.toList ++ [pm]) x2 (x3.setCell ⟨pm, 0, none⟩ (.slice (cutA a c (4 + be X)) (X.length - (4 + be X)) (c - (4 + be X)))) := ((Keeps.grown ((Keeps.refl (T.ownBlock.toList) x2).alloc o) hg (fun y e => .inl (by simpa using e))).mono (fun y hy => .inl (List.mem_append.2 (.inl hy)))).trans hk4 (fun y hy => .inl (List.mem_append.2 (.inr hy)))
    exact (h1.keeps hk (fun y hy => .inl hy)).less (fun y hy => .inl (List.mem_append.2 (.inr hy)))
  have hcut : ∀ y, cutA a c (4 + be X) = some y → ∃ y0, a = some y0 ∧ y.block = y0.block := by
    intro y hy
    unfold cutA at hy
    split at hy
    · exact ⟨y, hy, rfl⟩
    · cases a with
      | none => cases hy
      | some z =>
        simp only [Option.map_some, Option.some.injEq] at hy
        subst hy
        exact ⟨z, rfl, by unfold Addr.add; split <;> rfl⟩
  have hi5 : InE (x3.setCell ⟨pm, 0, none⟩ (.slice (cutA a c (4 + be X)) (X.length - (4 + be X)) (c - (4 + be X)))) [pm] a c X := ⟨(hall5 ⟨a, c, X⟩ (by simp)).1, h.le, h.max, h.nil, fun _ y hy => ((hall5 ⟨a, c, X⟩ (by simp)).2 y hy).1⟩
  have hic := hi5.cut (4 + be X)
  refine ⟨by rw [List.length_drop]; exact set2_0 hbox3 _, hic.le, hic.max, hic.nil, ?_, ?_, ?_, fun y hy => ?_, ?_⟩
  · intro f hf
    rcases List.mem_cons.1 hf with rfl | hf
    · refine ⟨hic.row, fun y hy => ?_⟩
      obtain ⟨y0, e0, e1⟩ := hcut y hy
      rw [e1]
      exact (hall5 ⟨a, c, X⟩ (by simp)).2 y0 e0
    · rcases List.mem_append.1 hf with q | q
      · exact hall5 f (by simp [q])
      · exact hnew5 f q
  · exact hk4.owns hT (fun y hy hm => by
      simp at hm
      subst hm
      exact row_box hT hbox3 (by decide) _ hy rfl)
  · refine (h.keep.trans (hk5) (fun y hy => ?_))
    rcases List.mem_append.1 hy with q | q
    · exact .inr (h.owns.lt y (by simpa using q)).1
    · exact .inl q
  · obtain ⟨y0, e0, e1⟩ := hcut y hy
    rw [e1]; exact h.new y0 e0
  · rw [h.eq, frames_one hb hl]
    simp
end Go.Proofs.Ythbomgjjdmogpaa
