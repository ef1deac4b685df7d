/- A journal in memory; its small functions: dataBlock, numberAt, has, dead, small, find. -/
import Derived.Test.YtohncckmennfbaaDoorKp
import Derived.Test.YtohncckmennfbaaDoorTm
import Derived.Test.YtohncckmennfbaaDoorUse
namespace Go.Proofs.YtohncckmennfbaaDoor
set_option linter.unusedSimpArgs false
set_option linter.unusedVariables false
open Go.RowKit Go.MapKept
/-- What is committed, as the map says it: in which slot, of which home. -/
def lv (T : List (List Nat)) (p : Nat × Nat) : Option Value := if p.2 ∈ T.getD p.1 [] then some (.int .i64 ((dat T p.1 p.2 : Nat) : Int)) else none
def jcells (dp lb : Nat) (T : List (List Nat)) (off : Bool) : Array Value := #[.pointer (some ⟨dp, 0, none⟩), .map (some lb), .int .i64 (T.length : Int), .bool off]
structure JourIs (w : World) (j lb dp : Nat) (T : List (List Nat)) (off : Bool) : Prop where
  cells : w.heap[j]? = some (.cells (jcells dp lb T off) 79 (0, 0))
  live : ∃ m, MapIs w lb mkP (lv T) m
  four : T.length ≤ 4
theorem JourIs.c {w : World} {j lb dp : Nat} {T : List (List Nat)} {off : Bool} (h : JourIs w j lb dp T off) : w.cell? ⟨j, 0, none⟩ = some (.pointer (some ⟨dp, 0, none⟩)) ∧ w.cell? ⟨j, 1, none⟩ = some (.map (some lb)) ∧ w.cell? ⟨j, 2, none⟩ = some (.int .i64 (T.length : Int)) ∧ w.cell? ⟨j, 3, none⟩ = some (.bool off) := by
  refine ⟨?_, ?_, ?_, ?_⟩ <;> rw [cell_of_row _ _ _ _ _ _ h.cells] <;> rfl
theorem JourIs.lt {w : World} {j lb dp : Nat} {T : List (List Nat)} {off : Bool} (h : JourIs w j lb dp T off) : j < w.heap.size ∧ lb < w.heap.size := by
  obtain ⟨m, hm⟩ := h.live
  exact ⟨(Array.getElem?_eq_some_iff.1 h.cells).1, hm.lt⟩
theorem JourIs.blk {w w' : World} {j lb dp : Nat} {T : List (List Nat)} {off : Bool} (h : JourIs w j lb dp T off) (e1 : w'.heap[j]? = w.heap[j]?) (e2 : w'.heap[lb]? = w.heap[lb]?) : JourIs w' j lb dp T off := by
  obtain ⟨m, hm⟩ := h.live
  exact ⟨e1.trans h.cells, ⟨m, hm.blk e2⟩, h.four⟩
theorem JourIs.below {w w' : World} {j lb dp : Nat} {T : List (List Nat)} {off : Bool} (h : JourIs w j lb dp T off) (hb : Below w.heap.size w w') : JourIs w' j lb dp T off := h.blk (hb.block _ h.lt.1) (hb.block _ h.lt.2)
theorem JourIs.ne {w : World} {j lb dp : Nat} {T : List (List Nat)} {off : Bool} (h : JourIs w j lb dp T off) : j ≠ lb := by
  obtain ⟨m, es, c, hb, _⟩ := h.live
  intro e
  have := h.cells
  rw [e, hb] at this
  cases this
/-- A journal on a device: FP, the blocks that are theirs. -/
def Jour (w : World) (j dp : Nat) (FP : List Nat) (d : Dv) (T : List (List Nat)) (off : Bool) : Prop :=
  ∃ F lb, FP = j :: lb :: F ∧ Dev w dp F d ∧ JourIs w j lb dp T off ∧ j ∉ F ∧ lb ∉ F
theorem Jour.lt {w : World} {j dp : Nat} {FP : List Nat} {d : Dv} {T : List (List Nat)} {off : Bool} (h : Jour w j dp FP d T off) : ∀ x ∈ FP, x < w.heap.size := by
  obtain ⟨F, lb, rfl, hd, hj, _⟩ := h
  intro x hx
  rcases List.mem_cons.1 hx with rfl | hx
  · exact hj.lt.1
  · rcases List.mem_cons.1 hx with rfl | hx
    · exact hj.lt.2
    · exact hd.lt x hx
theorem Jour.keeps {w w' : World} {j dp : Nat} {FP G : List Nat} {d : Dv} {T : List (List Nat)} {off : Bool} (h : Jour w j dp FP d T off) (k : Keeps G w w') (hg : ∀ x ∈ FP, x ∉ G) : Jour w' j dp FP d T off := by
  have hlt := h.lt
  obtain ⟨F, lb, rfl, hd, hj, h1, h2⟩ := h
  exact ⟨F, lb, rfl, hd.keeps k (fun x hx => hg x (by simp [hx])), hj.blk (k.block _ (hlt _ (by simp)) (hg _ (by simp))) (k.block _ (hlt _ (by simp)) (hg _ (by simp))), h1, h2⟩
theorem Jour.below {w w' : World} {j dp : Nat} {FP : List Nat} {d : Dv} {T : List (List Nat)} {off : Bool} (h : Jour w j dp FP d T off) (hb : Below w.heap.size w w') : Jour w' j dp FP d T off := h.keeps (Keeps.of_below hb []) (by simp)
theorem Jour.ok {w : World} {j dp : Nat} {FP : List Nat} {d : Dv} {T : List (List Nat)} {off : Bool} (h : Jour w j dp FP d T off) : d.Ok := by
  obtain ⟨F, lb, rfl, hd, _⟩ := h; exact hd.ok
theorem dataBlock_any (s i : Nat) (w : World) (hs : s ≤ 1000) (hi : i ≤ 1000000) : Calls Tryd.prog 63 #[.int .i64 (s : Int), .int .i64 (i : Int)] w fun e w' => e = .returned (.int .i64 ((1 + 60 * s + i : Nat) : Int)) ∧ w' = w := by
  go_enter Tryd.func63, Tryd.ntmps63
  go_wp2
  go_ret
  exact ⟨retI (by omega), rfl⟩
theorem numberAt_any (q : Nat) (w : World) (hq : q ≤ 100000) : Calls Tryd.prog 64 #[.int .i64 ((q + 1 : Nat) : Int)] w fun e w' => e = .returned (.int .i64 ((8 + 2 * q : Nat) : Int)) ∧ w' = w := by
  go_enter Tryd.func64, Tryd.ntmps64
  go_wp2
  go_ret
  exact ⟨retI (by omega), rfl⟩
def hasJ (n : Nat) (k : Int) : Bool := decide (245 ≤ k ∧ k < n)
theorem jhas_any {w : World} {j dp : Nat} {FP : List Nat} {d : Dv} {T : List (List Nat)} {off : Bool} (h : Jour w j dp FP d T off) (k : Int) :
    Calls Tryd.prog 55 #[.pointer (some ⟨j, 0, none⟩), .int .i64 k] w fun e w' => e = .returned (.bool (hasJ d.n k)) ∧ w' = w := by
  obtain ⟨F, lb, rfl, hd, hj, h1, h2⟩ := h
  obtain ⟨c0, c1, c2, c3⟩ := hj.c
  by_cases hk : 245 ≤ k
  · by_cases hk2 : k < d.n
    all_goals
      go_enter Tryd.func55, Tryd.ntmps55
      go_wp2_with (go_at_call 35; refine (blocksD hd).mono ?_; rintro e w1 ⟨rfl, hw⟩; subst w1)
      go_ret
      exact ⟨retB (by simp [hasJ, hk, hk2]), rfl⟩
  · go_enter Tryd.func55, Tryd.ntmps55
    go_wp2
    go_ret
    exact ⟨retB (by simp [hasJ]; omega), rfl⟩
theorem jhas_nil (k : Int) (w : World) : Calls Tryd.prog 55 #[.pointer none, .int .i64 k] w fun e w' => e = .returned (.bool false) ∧ w' = w := by
  go_enter Tryd.func55, Tryd.ntmps55
  go_wp2
  go_ret
  exact ⟨rfl, rfl⟩
theorem dead_any {w : World} {j dp : Nat} {FP : List Nat} {d : Dv} {T : List (List Nat)} {off : Bool} (h : Jour w j dp FP d T off) :
    Calls Tryd.prog 51 #[.pointer (some ⟨j, 0, none⟩)] w fun e w' => e = .returned (.bool off) ∧ w' = w := by
  obtain ⟨F, lb, rfl, hd, hj, h1, h2⟩ := h
  obtain ⟨c0, c1, c2, c3⟩ := hj.c
  go_enter Tryd.func51, Tryd.ntmps51
  go_wp2
  go_ret
  exact ⟨rfl, rfl⟩
theorem dead_nil (w : World) : Calls Tryd.prog 51 #[.pointer none] w fun e w' => e = .returned (.bool true) ∧ w' = w := by
  go_enter Tryd.func51, Tryd.ntmps51
  go_wp2
  go_ret
  exact ⟨rfl, rfl⟩
theorem jsmall_any {w : World} {p : Nat} {F : List Nat} {d : Dv} (h : Dev w p F d) :
    Calls Tryd.prog 36 #[.pointer (some ⟨p, 0, none⟩)] w fun e w' => e = .returned (.bool (decide (d.n < 246))) ∧ w' = w := by
  go_enter Tryd.func36, Tryd.ntmps36
  go_wp2_with (go_at_call 35; refine (blocksD h).mono ?_; rintro e w1 ⟨rfl, hw⟩; subst w1)
  go_ret
  exact ⟨retB (by simp; omega), rfl⟩
end Go.Proofs.YtohncckmennfbaaDoor
