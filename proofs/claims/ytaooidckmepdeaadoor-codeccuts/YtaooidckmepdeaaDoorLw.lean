/- What the laws' walks lean on. -/
import Derived.Test.YtaooidckmepdeaaDoorDe
import Derived.Test.YtaooidckmepdeaaDoorPe
import Derived.Test.YtaooidckmepdeaaDoorOp
import Derived.Laws.StructEq
namespace Go.Proofs.YtaooidckmepdeaaDoor
set_option linter.unusedSimpArgs false
set_option linter.unusedVariables false
open Go.RowKit
theorem enc_no {r : Rc} {first : Int} (h : ¬ encE r first = 0) : encR r first = [] := by unfold encR; rw [if_neg h]
theorem enc_ok {r : Rc} {first : Int} (h : encE r first = 0) : encR r first = encL r first ∧ chk r = 0 ∧ timeB first = true := by
  refine ⟨by unfold encR; rw [if_pos h], ?_⟩
  unfold encE at h
  by_cases hc : chk r = 0
  · rw [if_pos hc] at h
    by_cases ht : timeB first = true
    · exact ⟨hc, ht⟩
    · rw [if_neg ht] at h; omega
  · rw [if_neg hc] at h; exact absurd h hc
theorem encL_lt (r : Rc) (first : Int) (h : chk r = 0) (hf : timeB first = true) : ∀ i, (encL r first).getD i 0 < 256 := by
  obtain ⟨t0, t1, o0, o1, k1, v1, _, _⟩ := chk_ok h
  unfold encL
  rw [show headN r :: (groups r.o.toNat ++ (groups (zig (r.t - first)).toNat ++ (textL r.hk r.k ++ textL r.hv r.v))) = [headN r] ++ (groups r.o.toNat ++ (groups (zig (r.t - first)).toNat ++ (textL r.hk r.k ++ textL r.hv r.v))) from rfl]
  obtain ⟨f0, f1⟩ := (time_iff first).1 hf
  have hz := zig_bd (r.t - first) (by omega) (by omega)
  refine app_lt ?_ (app_lt (groups_lt _ (by omega)) (app_lt (groups_lt _ (by omega)) (app_lt (text_lt _ _ k1) (text_lt _ _ v1))))
  intro i
  match i with
  | 0 => exact headN_lt r
  | i + 1 => simp
theorem big_no {r : Rc} (first : Int) (h : ¬ (r.k.size ≤ 2000 ∧ r.v.size ≤ 2000)) : ¬ encE r first = 0 := fun c => h ⟨(chk_ok (enc_ok c).2.1).2.2.2.2.1, (chk_ok (enc_ok c).2.1).2.2.2.2.2.1⟩
theorem app_some {B : Nat} {w : World} {v : Value} {L m M : List Nat} (h : w.ownsRow B 5 1 v (L.length + m.length) (cv L ++ cv m)) (h0 : 0 < L.length) (hM : M = L ++ m) : ∃ g cap, v = .slice (some ⟨g, 0, none⟩) M.length cap ∧ Own B w g cap M := by
  subst hM
  rw [← List.length_append, ← cv_append] at h
  exact owns_some h (by simp; omega)
theorem box_free {w y : World} {cs : Array Value} {t : TypeId} (hb : Below (w.alloc (.cells cs t)).heap.size (w.alloc (.cells cs t)) y) : ∀ i, y.frozen? ⟨w.heap.size, i, none⟩ = false := by
  intro i
  have h := hb.block w.heap.size (by simp)
  have h2 : (w.alloc (.cells cs t)).heap[w.heap.size]? = some (.cells cs t (0, 0)) := heap_alloc_new w _
  rw [h2] at h
  simp [World.frozen?, h]
theorem encL_pos (r : Rc) (first : Int) : 0 < (encL r first).length := by simp [encL]
end Go.Proofs.YtaooidckmepdeaaDoor
