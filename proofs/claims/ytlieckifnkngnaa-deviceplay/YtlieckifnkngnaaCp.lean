/- Copy; and what a device that is none answers. -/
import Derived.Test.YtlieckifnkngnaaCw
import Derived.Laws.NewDeep
namespace Go.Proofs.Ytlieckifnkngnaa
set_option linter.unusedSimpArgs false
set_option linter.unusedVariables false
open Go.RowKit Go.MapKept
open Go.ChangeMaps (setBlock)
theorem alloc4 (w : World) (o1 o2 o3 o4 : Obj) : ((((w.alloc o1).alloc o2).alloc o3).alloc o4).heap[w.heap.size]? = some o1 ∧ ((((w.alloc o1).alloc o2).alloc o3).alloc o4).heap[w.heap.size + 1]? = some o2 ∧
    ((((w.alloc o1).alloc o2).alloc o3).alloc o4).heap[w.heap.size + 1 + 1]? = some o3 ∧ ((((w.alloc o1).alloc o2).alloc o3).alloc o4).heap[w.heap.size + 1 + 1 + 1]? = some o4 := by
  have e : ((((w.alloc o1).alloc o2).alloc o3).alloc o4).heap = (((w.heap.push o1).push o2).push o3).push o4 := rfl
  rw [e]
  refine ⟨?_, ?_, ?_, ?_⟩
  · rw [Array.getElem?_push, if_neg (by simp; omega), Array.getElem?_push, if_neg (by simp; omega), Array.getElem?_push, if_neg (by simp), Array.getElem?_push, if_pos rfl]
  · rw [Array.getElem?_push, if_neg (by simp <;> omega), Array.getElem?_push, if_neg (by simp), Array.getElem?_push, if_pos (by simp)]
  · rw [Array.getElem?_push, if_neg (by simp), Array.getElem?_push, if_pos (by simp)]
  · rw [Array.getElem?_push, if_pos (by simp)]
set_option maxRecDepth 100000 in
set_option maxHeartbeats 1000000 in
theorem copy_any (p fb pb tb : Nat) (d : Dv) (w : World) (h : DevIs w p fb pb tb d) :
    Calls Try.prog 26 #[.pointer (some ⟨p, 0, none⟩)] w fun e w' => ∃ c cf cp ct, e = .returned (.pointer (some ⟨c, 0, none⟩)) ∧ DevIs w' c cf cp ct d ∧ (∀ x ∈ fp c cf cp ct, w.heap.size ≤ x) ∧ Below w.heap.size w w' := by
  obtain ⟨c0, c1, c2, c3, c4, c5, c6⟩ := h.c
  have h1 := h.ok.n1
  have hn0 : ((d.n : Int) == 0) = false := by simp; omega
  have hlt := h.lt
  have lp := hlt p (by simp [fp])
  have lf := hlt fb (by simp [fp])
  have lpb := hlt pb (by simp [fp])
  have lt := hlt tb (by simp [fp])
  obtain ⟨F, m, ⟨es1, cl1, hb1, E1, hs1⟩, hF2⟩ := h.fm
  obtain ⟨Q, m', ⟨es2, cl2, hb2, E2, hs2⟩, hQ2⟩ := h.pm
  obtain ⟨es3, cl3, hb3, E3, hs3⟩ := h.tm
  have K39 : Hid (∀ w', w'.heap[fb]? = w.heap[fb]? → Calls Try.prog 39 #[.map (some fb)] w' fun e w'' => e = .returned (.map (some w'.heap.size)) ∧ w'' = w'.alloc (.map es1 cl1)) := fun w' e => cloneF_any fb es1 cl1 w' (e.trans hb1)
  have K43 : Hid (∀ w', w'.heap[pb]? = w.heap[pb]? → Calls Try.prog 43 #[.map (some pb)] w' fun e w'' => e = .returned (.map (some w'.heap.size)) ∧ w'' = w'.alloc (.map es2 cl2)) := fun w' e => cloneP_any pb es2 cl2 w' (e.trans hb2)
  have K44 : Hid (∀ w', w'.heap[tb]? = w.heap[tb]? → Calls Try.prog 44 #[.map (some tb)] w' fun e w'' => e = .returned (.map (some w'.heap.size)) ∧ w'' = w'.alloc (.map es3 cl3)) := fun w' e => cloneT_any tb es3 cl3 w' (e.trans hb3)
  have al : ∀ (w' : World) (o : Obj) (k : Nat), k < w'.heap.size → (w'.alloc o).heap[k]? = w'.heap[k]? := Below.heap_alloc
  have HB1 : Hid (w.heap[fb]? = some (.map es1 cl1)) := hb1
  have HB2 : Hid (w.heap[pb]? = some (.map es2 cl2)) := hb2
  have HB3 : Hid (w.heap[tb]? = some (.map es3 cl3)) := hb3
  have c3d : ∀ o1 o2 o3, (((w.alloc o1).alloc o2).alloc o3).cell? ⟨p, 3, none⟩ = some (.map (some tb)) := fun o1 o2 o3 => by
    have hb : Below w.heap.size w (((w.alloc o1).alloc o2).alloc o3) := (((Below.refl _ _).alloc (Nat.le_refl _) _).alloc (by simp) _).alloc (by simp; omega) _
    rw [hb.cell lp]; exact c3
  clear hb1 hb2 hb3 al
  go_enter Try.func26, Try.ntmps26
  go_wp2_with (first
    | (go_at_call 17; refine (blocks_any p fb pb tb d _ h).mono ?_; rintro e w1 ⟨rfl, hw⟩; subst w1)
    | (go_at_call 39; refine (K39.out _ (Below.heap_alloc _ _ _ lf)).mono ?_; rintro e w1 ⟨rfl, rfl⟩)
    | (go_at_call 43; refine (K43.out _ ?_).mono ?_; exact (Below.heap_alloc _ _ _ (by simp; omega)).trans (Below.heap_alloc _ _ _ lpb); rintro e w1 ⟨rfl, rfl⟩)
    | (go_at_call 44; refine (K44.out _ ?_).mono ?_; exact (Below.heap_alloc _ _ _ (by simp; omega)).trans ((Below.heap_alloc _ _ _ (by simp; omega)).trans (Below.heap_alloc _ _ _ lt)); rintro e w1 ⟨rfl, rfl⟩))
  go_ret
  obtain ⟨a1, a2, a3, a4⟩ := alloc4 w (.cells #[.int .i64 (d.n : Int), .map (some (w.heap.size + 1)), .map (some (w.heap.size + 1 + 1)), .map (some (w.heap.size + 1 + 1 + 1)), .int .i64 (d.ops : Int), .bool d.cut, .int .i64 (d.left : Int)] 73) (.map es1 cl1) (.map es2 cl2) (.map es3 cl3)
  refine ⟨w.heap.size, w.heap.size + 1, w.heap.size + 1 + 1, w.heap.size + 1 + 1 + 1, rfl, ⟨a1, ⟨F, m, ⟨es1, cl1, a2, E1, hs1⟩, hF2⟩, ⟨Q, m', ⟨es2, cl2, a3, E2, hs2⟩, hQ2⟩, ⟨es3, cl3, a4, E3, hs3⟩, by omega, h.ok⟩, ?_, ?_⟩
  · intro x hx
    simp only [fp, List.mem_cons, List.not_mem_nil, or_false] at hx
    omega
  · exact ((((Below.refl _ _).alloc (Nat.le_refl _) _).alloc (by simp) _).alloc (by simp; omega) _).alloc (by simp; omega) _
/-- A device that is none. -/
theorem blocks_nil (w : World) : Calls Try.prog 17 #[.pointer none] w fun e w' => e = .returned (.int .i64 0) ∧ w' = w := by
  go_enter Try.func17, Try.ntmps17
  go_wp2
  go_ret
  exact ⟨rfl, rfl⟩
theorem ops_nil (w : World) : Calls Try.prog 24 #[.pointer none] w fun e w' => e = .returned (.int .i64 0) ∧ w' = w := by
  go_enter Try.func24, Try.ntmps24
  go_wp2
  go_ret
  exact ⟨rfl, rfl⟩
theorem has_nil (k : Int) (w : World) : Calls Try.prog 35 #[.pointer none, .int .i64 k] w fun e w' => e = .returned (.bool false) ∧ w' = w := by
  by_cases hk : 0 ≤ k
  · go_enter Try.func35, Try.ntmps35
    go_wp2_with (go_at_call 17; refine (blocks_nil _).mono ?_; rintro e w1 ⟨rfl, hw⟩; subst w1)
    go_ret
    exact ⟨retB (by simp; omega), rfl⟩
  · go_enter Try.func35, Try.ntmps35
    go_wp2
    go_ret
    exact ⟨rfl, rfl⟩
theorem op_nil (w : World) : Calls Try.prog 37 #[.pointer none] w fun e w' => e = .returned (.bool false) ∧ w' = w := by
  go_enter Try.func37, Try.ntmps37
  go_wp2_with (go_at_call 17; refine (blocks_nil _).mono ?_; rintro e w1 ⟨rfl, hw⟩; subst w1)
  go_ret
  exact ⟨rfl, rfl⟩
theorem read_nil (k : Int) (w : World) : Calls Try.prog 18 #[.pointer none, .int .i64 k] w fun e w' => e = .returned (.tuple #[.slice none 0 0, .int .i64 1]) ∧ w' = w := by
  go_enter Try.func18, Try.ntmps18
  go_wp2_with (go_at_call 35; refine (has_nil _ _).mono ?_; rintro e w1 ⟨rfl, hw⟩; subst w1)
  go_ret2
  exact ⟨rfl, rfl⟩
theorem write_nil (k : Int) (v : Value) (w : World) : Calls Try.prog 22 #[.pointer none, .int .i64 k, v] w fun e w' => e = .returned (.int .i64 9) ∧ w' = w := by
  go_enter Try.func22, Try.ntmps22
  go_wp2_with (go_at_call 37; refine (op_nil _).mono ?_; rintro e w1 ⟨rfl, hw⟩; subst w1)
  go_ret
  exact ⟨rfl, rfl⟩
theorem flush_nil (w : World) : Calls Try.prog 23 #[.pointer none] w fun e w' => e = .returned (.int .i64 9) ∧ w' = w := by
  go_enter Try.func23, Try.ntmps23
  go_wp2_with (go_at_call 37; refine (op_nil _).mono ?_; rintro e w1 ⟨rfl, hw⟩; subst w1)
  go_ret
  exact ⟨rfl, rfl⟩
theorem cut_nil (k : Int) (w : World) : Calls Try.prog 21 #[.pointer none, .int .i64 k] w fun e w' => (∃ v, e = .returned v) ∧ w' = w := by
  go_enter Try.func21, Try.ntmps21
  go_wp2_with (go_at_call 17; refine (blocks_nil _).mono ?_; rintro e w1 ⟨rfl, hw⟩; subst w1)
  exact bodyPost_ret (v := .tuple #[]) (by simp [results, Try.results21, go_sem]) rfl ⟨⟨_, rfl⟩, rfl⟩
/-- A new device without blocks. -/
def zeroDev : Obj := .cells #[.int .i64 0, .map none, .map none, .map none, .int .i64 0, .bool false, .int .i64 0] 73
theorem crash_nil (v : Value) (w : World) : Calls Try.prog 25 #[.pointer none, v] w fun e w' => e = .returned (.pointer (some ⟨w.heap.size, 0, none⟩)) ∧ w' = w.alloc zeroDev := by
  go_enter Try.func25, Try.ntmps25
  go_wp2_with (go_at_call 17; refine (blocks_nil _).mono ?_; rintro e w1 ⟨rfl, hw⟩; subst w1)
  go_ret
  exact ⟨rfl, rfl⟩
theorem copy_nil (w : World) : Calls Try.prog 26 #[.pointer none] w fun e w' => e = .returned (.pointer (some ⟨w.heap.size, 0, none⟩)) ∧ w' = w.alloc zeroDev := by
  go_enter Try.func26, Try.ntmps26
  go_wp2_with (go_at_call 17; refine (blocks_nil _).mono ?_; rintro e w1 ⟨rfl, hw⟩; subst w1)
  go_ret
  exact ⟨rfl, rfl⟩
theorem blocks_zero (w : World) : Calls Try.prog 17 #[.pointer (some ⟨w.heap.size, 0, none⟩)] (w.alloc zeroDev) fun e w' => e = .returned (.int .i64 0) ∧ w' = w.alloc zeroDev := by
  have c0 : (w.alloc zeroDev).cell? ⟨w.heap.size, 0, none⟩ = some (.int .i64 0) := by
    rw [cell_of_row _ _ _ _ _ _ (heap_alloc_new w zeroDev)]; rfl
  go_enter Try.func17, Try.ntmps17
  go_wp2
  go_ret
  exact ⟨rfl, rfl⟩
end Go.Proofs.Ytlieckifnkngnaa
