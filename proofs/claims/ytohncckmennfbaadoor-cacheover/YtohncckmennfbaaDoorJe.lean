/- record's steps: each change is written into its data block, all is flushed, the table tells of them. -/
import Derived.Test.YtohncckmennfbaaDoorJq
namespace Go.Proofs.YtohncckmennfbaaDoor
set_option linter.unusedSimpArgs false
set_option linter.unusedVariables false
open Go.RowKit Go.MapKept Go.Proofs
open Go.ChangeMaps (setBlock)
theorem enters60 : Enters Tryd.prog 77 := enters_of Tryd.func77 (by kernel_rfl) rfl
theorem enters62 : Enters Tryd.prog 78 := enters_of Tryd.func78 (by kernel_rfl) rfl
/-- A change in a block of its own. -/
def CBox (w : World) (b : Nat) (k : Int) (v : Value) : Prop := w.heap[b]? = some (.cells #[.int .i64 k, v] 94 (0, 0))
theorem CBox.c {w : World} {b : Nat} {k : Int} {v : Value} (h : CBox w b k v) : w.cell? ⟨b, 0, none⟩ = some (.int .i64 k) ∧ w.cell? ⟨b, 1, none⟩ = some v := by
  constructor <;> rw [cell_of_row _ _ _ _ _ _ h] <;> rfl
/-- What record's first step reads. -/
def RcS (j dp jb sb ib cb g s i : Nat) (w : World) : Prop :=
  w.cell? ⟨jb, 0, none⟩ = some (.pointer (some ⟨j, 0, none⟩)) ∧ w.cell? ⟨j, 0, none⟩ = some (.pointer (some ⟨dp, 0, none⟩)) ∧ w.cell? ⟨sb, 0, none⟩ = some (.int .i64 (s : Int)) ∧ w.cell? ⟨ib, 0, none⟩ = some (.int .i64 (i : Int)) ∧ w.cell? ⟨cb, 1, none⟩ = some (.slice (some ⟨g, 0, none⟩) 512 512)
theorem RcS.keeps {j dp jb sb ib cb g s i : Nat} {w w' : World} {F : List Nat} (h : RcS j dp jb sb ib cb g s i w) (k : Keeps F w w') (hF : ∀ x ∈ [j, jb, sb, ib, cb], x ∉ F) : RcS j dp jb sb ib cb g s i w' := by
  obtain ⟨h1, h2, h3, h4, h5⟩ := h
  have key : ∀ b o v, b ∈ [j, jb, sb, ib, cb] → w.cell? ⟨b, o, none⟩ = some v → w'.cell? ⟨b, o, none⟩ = some v := fun b o v hb hc => (cell_blk (k.block b (World.block_lt_of_cell? _ _ hc) (hF b hb))).trans hc
  exact ⟨key _ _ _ (by simp) h1, key _ _ _ (by simp) h2, key _ _ _ (by simp) h3, key _ _ _ (by simp) h4, key _ _ _ (by simp) h5⟩
set_option maxHeartbeats 600000 in
theorem rc1_any {w : World} {j dp : Nat} {F : List Nat} {d : Dv} {jb sb ib cb g s i : Nat} {c : List Nat} (hd : Dev w dp F d) (hS : RcS j dp jb sb ib cb g s i w) (hF : ∀ x ∈ [j, jb, sb, ib, cb], x ∉ F) (hg : Full w g 68 c) (hc : c.length = 512) (hb : ∀ i, c.getD i 0 < 256) (hs : s ≤ 1000) (hi : i ≤ 1000000) (ho : d.ops < 1000000) :
    Calls Tryd.prog 77 #[.pointer (some ⟨jb, 0, none⟩), .pointer (some ⟨sb, 0, none⟩), .pointer (some ⟨ib, 0, none⟩), .pointer (some ⟨cb, 0, none⟩)] w fun e w' => e = .returned (.int .i64 (d.wcode ((1 + 60 * s + i : Nat) : Int) 512)) ∧ ∃ F', Dev w' dp F' (d.wrote ((1 + 60 * s + i : Nat) : Int) c) ∧ Keeps F w w' ∧ Grows w F F' := by
  have HW : Hid (∀ (w' : World), Below w.heap.size w w' → Calls Tryd.prog 70 #[.pointer (some ⟨dp, 0, none⟩), .int .i64 ((1 + 60 * s + i : Nat) : Int), .slice (some ⟨g, 0, none⟩) 512 512] w' fun e w'' => e = .returned (.int .i64 (d.wcode ((1 + 60 * s + i : Nat) : Int) 512)) ∧ RcS j dp jb sb ib cb g s i w'' ∧ ∃ F', Dev w'' dp F' (d.wrote ((1 + 60 * s + i : Nat) : Int) c) ∧ Keeps F w w'' ∧ Grows w F F') := fun w' hbb => by
    have := writeD (hd.below hbb) ((1 + 60 * s + i : Nat) : Int) g c (ty := 68) (by decide) (hg.below hbb) hb (by rw [hc]; omega) ho
    rw [hc] at this
    refine this.mono ?_
    rintro e w'' ⟨rfl, F', h1, h2, h3⟩
    have hk : Keeps F w w'' := (Keeps.of_below hbb F).trans h2 (fun x hx => .inl hx)
    exact ⟨rfl, hS.keeps hk hF, F', h1, hk, fun x hx => (h3 x hx).imp id (fun q => Nat.le_trans hbb.size q)⟩
  have HD : Hid (∀ w', Calls Tryd.prog 63 #[.int .i64 (s : Int), .int .i64 (i : Int)] w' fun e w'' => e = .returned (.int .i64 ((1 + 60 * s + i : Nat) : Int)) ∧ w'' = w') := fun w' => dataBlock_any s i w' hs hi
  unfold RcS at hS HW
  obtain ⟨c1, c2, c3, c4, c5⟩ := id hS
  clear hg hc hd hb hF
  generalize 1 + 60 * s + i = D at *
  go_enter Tryd.func77, Tryd.ntmps77
  go_wp2
  go_region_held3 (fun w : World => w.cell? ⟨jb, 0, none⟩ = some (.pointer (some ⟨j, 0, none⟩)) ∧ w.cell? ⟨j, 0, none⟩ = some (.pointer (some ⟨dp, 0, none⟩)) ∧ w.cell? ⟨sb, 0, none⟩ = some (.int .i64 (s : Int)) ∧ w.cell? ⟨ib, 0, none⟩ = some (.int .i64 (i : Int)) ∧ w.cell? ⟨cb, 1, none⟩ = some (.slice (some ⟨g, 0, none⟩) 512 512)) (first | exact hS | exact hS3)
    ((first
      | (go_at_call 63; refine (HD.out _).mono ?_; rintro e w2 ⟨rfl, hw⟩; subst w2)
      | (go_at_call 70; refine (HW.out _ (by exact ⟨rfl, rfl, rfl, Nat.le_refl _, fun _ _ => rfl⟩)).mono ?_; rintro e w3 ⟨rfl, hS3, hpost⟩)))
  all_goals go_wp2
  all_goals go_ret
  all_goals exact ⟨rfl, hpost⟩
/-- One more of a slot's homes. -/
theorem lv_put {T : List (List Nat)} {hl : List Nat} (hnd : hl.Nodup) {i : Nat} (hi : i < hl.length) : put (lv (T ++ [hl.take i])) (T.length, hl.getD i 0) (.int .i64 ((1 + 60 * T.length + i : Nat) : Int)) = lv (T ++ [hl.take (i + 1)]) := by
  have hget : hl.getD i 0 = hl[i] := by simp [List.getD, hi]
  have htk : hl.take (i + 1) = hl.take i ++ [hl.getD i 0] := by rw [List.take_add_one, hget]; simp [hi]
  have hni : hl.getD i 0 ∉ hl.take i := fun q => by
    rw [hget] at q
    obtain ⟨j, hj, e⟩ := List.getElem_of_mem q
    have hj' : j < i := by simp at hj; omega
    rw [List.getElem_take] at e
    exact List.pairwise_iff_getElem.1 hnd j i (by omega) hi hj' e
  funext p
  unfold put
  by_cases e : p = (T.length, hl.getD i 0)
  · rw [if_pos e, e]
    unfold lv dat
    simp only [getD_app, if_true]
    rw [if_pos (by rw [htk]; simp), htk, List.idxOf_append, if_neg hni]
    have : (hl.take i).length = i := by simp; omega
    simp [this]
  · rw [if_neg e]
    unfold lv dat
    simp only [getD_app]
    by_cases hp : p.1 = T.length
    · rw [if_pos hp, if_pos hp]
      have hne : p.2 ≠ hl.getD i 0 := fun c => e (Prod.ext hp c)
      by_cases hm : p.2 ∈ hl.take i
      · rw [if_pos hm, if_pos (by rw [htk]; exact List.mem_append.2 (.inl hm)), htk, List.idxOf_append, if_pos hm]
      · rw [if_neg hm, if_neg (by rw [htk, List.mem_append, List.mem_singleton]; exact fun c => c.elim hm hne)]
    · rw [if_neg hp, if_neg hp]
theorem lv_nil (T : List (List Nat)) : lv (T ++ [[]]) = lv T := by
  funext p
  unfold lv dat
  simp only [getD_app]
  by_cases hp : p.1 = T.length
  · rw [if_pos hp, hp]
    have : T.getD T.length [] = [] := by rw [List.getD_eq_getElem?_getD, List.getElem?_eq_none (Nat.le_refl _)]; rfl
    rw [this]
  · rw [if_neg hp]
end Go.Proofs.YtohncckmennfbaaDoor
