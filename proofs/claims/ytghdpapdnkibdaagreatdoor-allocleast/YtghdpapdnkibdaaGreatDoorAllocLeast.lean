/-
AllocLeast, the whole statement: for every row of numbers the call returns true, what is taken being always the least that is free, and each argument reads afterwards as before. Its conditions: those of the tied card alone (bollard/crc.steps and bollard/layout.holds read as the program's text lays them).
-/
import Derived.Test.YtghdpapdnkibdaaGreatDoorZb
import Derived.Test.YtghdpapdnkibdaaGreatDoorCards
import Derived.Test.YtghdpapdnkibdaaGreatDoorTie
import Derived.WalkKit
import Derived.ProofKit
import Derived.OpenShut
import Derived.ShutString
import Derived.ChangeOld
import Derived.Below
import Derived.Deep.DeepHandedRow
import Derived.Lib.LaidTab
namespace Go.Proofs.YtghdpapdnkibdaaGreatDoor
namespace allocLeastDone
set_option linter.unusedSimpArgs false
open Go.ChangeShapes Go.WideShapes Go.ChangeAt Go.RowKit
open Go.ChangeMaps (open_string shut_string)
set_option linter.unusedVariables false

theorem own : ownKnob Tryz.prog.godebug = none := by kernel_rfl
theorem laidOut : laidOutB Tryz.prog = true := by kernel_rfl
theorem gHol : Tryz.prog.globalNamed "bollard/layout.holds" = some 0 := by kernel_rfl
theorem gHolType : (Tryz.prog.globals[0]?).map (·.type) = some 57 := by kernel_rfl
theorem cells57h : Tryz.prog.cellsOf 57 = 3 := by kernel_rfl
theorem cells3 : Tryz.prog.cellsOf 3 = 1 := by kernel_rfl
def holds : List Int := [4096, 4096, 8]
theorem gTab : Tryz.prog.globalNamed "bollard/crc.steps" = some 1 := by kernel_rfl
theorem gTabType : (Tryz.prog.globals[1]?).map (·.type) = some 132 := by kernel_rfl
theorem cells132 : Tryz.prog.cellsOf 132 = 16 := by kernel_rfl
theorem cells98 : Tryz.prog.cellsOf 98 = 1 := by kernel_rfl
def steps : List Int := [0, 274646895, 549293790, 820201905, 1098587580, 1361435347, 1640403810, 1905808397, 2197175160, 2460548119, 2722870694, 2987750089, 3280807620, 3553878443, 3811616794, 4084100981]
theorem table {W : World} (h : laidMetH Tryz.prog Rows.allocLeastRow.laid W) : Lib.TabIs Tryz.prog W "bollard/crc.steps" .u32 steps :=
  Lib.tabIs_of_head (rest := [("bollard/layout.holds", Lib.tabData .i64 holds)]) gTab gTabType Tryz.underlying132 Tryz.underlying98 cells98 cells132 h
theorem steps_are : ∀ i : Fin 16, steps.getD i.val 0 = ((P.shN 4 i.val : Nat) : Int) := by decide +kernel
theorem tab {W : World} (h : laidMetH Tryz.prog Rows.allocLeastRow.laid W) : Tab W := by
  intro i hi
  have := (table h).cell gTab i (by exact hi)
  rw [steps_are ⟨i, hi⟩] at this
  exact this
theorem hol {W : World} (h : laidMetH Tryz.prog Rows.allocLeastRow.laid W) : Hol W := by
  have t : Lib.TabIs Tryz.prog W "bollard/layout.holds" .i64 holds := by
    obtain ⟨ps, ⟨_, _, _, _, _, _, _, _, _, _, ⟨g', t', cs, fuel, p, q, hg', ht', hvar, hd, _, _⟩, _⟩, _⟩ := h
    obtain rfl := Option.some.inj (gHol.symm.trans hg')
    obtain rfl := Option.some.inj (gHolType.symm.trans ht')
    unfold Lib.TabIs
    rw [hvar, ← Lib.cells_of_tab (zs := holds) Tryz.underlying57 Tryz.underlying3 cells3 cells57h hd]
  exact ⟨t.cell gHol 0 (by decide), t.cell gHol 1 (by decide), t.cell gHol 2 (by decide)⟩

set_option maxRecDepth 100000 in
theorem contract (H : Type) (enc : TypeId × Value → H) (W : World) (base : Nat) (args : Array Value) (ds gs : List (DataW H)) (before : List MemPlace)
    (hval0 : ∀ (j : Nat) t v, Tryz.f3.params[j]? = some t → args[j]? = some v → Value.okWide Tryz.prog W .any base t v)
    (hW : DataW.Whole enc Tryz.prog Tryz.f3.params.toList Rows.allocLeastSpec.vars false W args.toList ds gs before) (hL : laidMetH Tryz.prog Rows.allocLeastRow.laid W) :
    Calls Tryz.prog 3 args W fun e W' => ∃ v, e = .returned v ∧ Rows.allocLeastSpec.post enc Tryz.prog Tryz.f3 false true false false W args v W' := by
  have hval := hval0
  have hW' := hW
  obtain ⟨p, q, hA0, hV, rfl, hfz, hnd⟩ := hW
  have hA : DataW.TrodAll enc Tryz.prog W 0 (fun _ => true) true Tryz.f3.params.toList args.toList ds p := hA0
  rw [Tryz.params3] at hA hval
  obtain ⟨v0, vs0, d0, ds0, p0, q0, hargs, rfl, rfl, h0, r0⟩ := trodAll_cons hA
  obtain ⟨rfl, rfl, rfl⟩ := trodAll_nil r0
  obtain rfl : args = #[v0] := by cases args; simp_all
  obtain ⟨rfl, rfl⟩ := trodVars_none hV
  obtain ⟨a0, len0, cap0, rfl⟩ := okWide_slice Tryz.underlying22 (hval 0 22 v0 rfl rfl)
  have k0 := h0
  have lt0 : ∀ x ∈ p0, x.block < W.heap.size := by obtain ⟨m, hm⟩ := k0; exact DataW.trod_lt m _ _ _ hm
  obtain ⟨l0, e0, w0, m0⟩ : ∃ l : List Int, len0 = l.length ∧ RowI W a0 l ∧ l.length ≤ maxLen := by
    obtain ⟨fuel, hf⟩ := h0
    rcases open_ints Tryz.underlying22 Tryz.underlying3 (by kernel_rfl) hf with ⟨hcs, _⟩ | ⟨x, l, c, zs, hcs, _, hl, hm, hz, _, hcell, hwz⟩
    · simp [Value.cells] at hcs
      obtain ⟨rfl, rfl, rfl⟩ := hcs
      exact ⟨[], rfl, RowI.nil _ _, by simp⟩
    · simp [Value.cells] at hcs
      obtain ⟨rfl, rfl, rfl⟩ := hcs
      exact rowI_of_cells hl hm (by simpa using hz) hcell hwz
  subst e0
  clear hA0 hval0
  refine (allocLeast_walk a0 cap0 l0 W (tab hL) (hol hL) w0 m0).mono fun e W' ⟨he, bel⟩ => ?_
  subst he
  exact ⟨_, rfl, _, _, _, [], _, [], hW', trodAll_mk1 (shut_bool Tryz.underlying4 _), (trodAll_cons_mk (Below.trod laidOut (by kernel_rfl) (of_decide_eq_true (by kernel_rfl)) k0 bel lt0) trodAll_mk0), rfl, bel.frame _, fun h => by cases h⟩

/-- A world in which the tables hold what their initialisers lay. -/
def laidWorld (p : Program) (os : Os) : World :=
  { World.holding p os ⟨#[], #[], []⟩ with heap := ((World.holding p os ⟨#[], #[], []⟩).heap.modify 0 fun | .cells _ t frozen => .cells (holds.map fun z => Value.int .i64 z).toArray t frozen | o => o).modify 1 fun | .cells _ t frozen => .cells (steps.map fun z => Value.int .u32 z).toArray t frozen | o => o }
theorem laid_met (os : Os) : laidMet Tryz.prog Rows.allocLeastRow.laid ((laidWorld Tryz.prog os).forCall (fun _ _ => 0) ⟨#[], #[.slice none 0 0], []⟩).memory :=
  laidMet_of_run' 8 (by kernel_rfl) (by kernel_rfl)
theorem reads (os : Os) {H : Type} (enc : TypeId × Value → H) : ∃ places, DataW.whole enc Tryz.prog ((laidWorld Tryz.prog os).forCall (fun _ _ => 0) ⟨#[], #[.slice none 0 0], []⟩).memory Tryz.f3.params.toList Rows.allocLeastSpec.vars false #[Value.slice none 0 0].toList 8 = some ([.nil], [], places) :=
  ⟨[], by kernel_rfl⟩

set_option maxRecDepth 100000 in
theorem lifted (os : Os) (started : os.Started) (H : Type) (enc : TypeId × Value → H) (F : Stop.Interp) :
    ReturnsInHanded {} Tryz.checked os 3 .any ((OpenSpec.ofChange Rows.allocLeastSpec).preRow enc Tryz.prog Tryz.f3 Rows.allocLeastRow.domain false Rows.allocLeastRow.laid) (((OpenSpec.ofChange Rows.allocLeastSpec).at F).post enc Tryz.prog Tryz.f3 false true false false) := by
  obtain ⟨places, hx⟩ := reads os enc
  refine returnsInHanded_of_row (C := Tryz.checked) (s := OpenSpec.ofChange Rows.allocLeastSpec) own started (by kernel_rfl) Tryz.func3
    (witness_row_at (enc := enc) (C := Tryz.checked) false (laidWorld Tryz.prog os) #[.slice none 0 0] rfl (by kernel_rfl) (by kernel_rfl) (by kernel_rfl)
      (OpenSpec.preRow_of_cond 8 hx (by kernel_rfl) (fun k hk => by cases hk) (by kernel_rfl) (laid_met os))) ?_
  intro W base args ds gs before hval hW _ _ _ hL _ _
  exact contract H enc W base args ds gs before hval hW hL

theorem said : Rows.AllocLeastSaid :=
  OpenClaim.holds_of_cond 3 Tryz.f3 rfl rfl rfl rfl rfl rfl rfl ⟨rfl, rfl, rfl, rfl, rfl⟩ rfl rfl rfl rfl rfl (by kernel_rfl) Tryz.func3 (by kernel_rfl)
    (of_decide_eq_true (by kernel_rfl)) (by unfold Func.isWrapper; first | (rw [if_pos (by decide +kernel)]; kernel_rfl) | (rw [if_neg (by decide +kernel)]; exact ⟨rfl, rfl⟩))
    (fun os started H enc _ F => by rw [OpenClaim.pre_eq_preRow]; exact lifted os started H enc F)

theorem noStand22 : Tryz.prog.wantsStandIn 22 = false := by kernel_rfl
set_option maxRecDepth 100000 in
theorem plain (f : FuncId) (fn : Func) (hf : Tryz.pinned.checked.prog.funcNamed "bollard/bollardlaw7.AllocLeast" = some f) (hfn : Tryz.pinned.checked.prog.funcs[f]? = some fn) :
    true = Tryz.pinned.checked.prog.looks [] ∧ ∀ (j : Nat) t, fn.params[j]? = some t → Tryz.pinned.checked.prog.wantsStandIn t = false := by
  obtain rfl : f = 3 := Option.some.inj ((show Tryz.prog.funcNamed "bollard/bollardlaw7.AllocLeast" = some 3 by kernel_rfl).symm.trans hf) |>.symm
  obtain rfl : fn = Tryz.f3 := (Option.some.inj (Tryz.func3.symm.trans hfn)).symm
  refine ⟨by kernel_rfl, fun j t ht => ?_⟩
  rw [Tryz.params3] at ht
  have hm := Array.mem_of_getElem? ht
  simp at hm
  rcases hm with rfl
  all_goals first | exact noStand22
end allocLeastDone

theorem allocLeast_holds : Rows.AllocLeastCardSaid :=
  Claim7.holds_tied_plain_at .later [] _ _ _ _ allocLeastDone.said (fun _ h => by cases h) (by kernel_rfl) (fun _ h => by cases h) allocLeast_row_tie rfl ⟨rfl, rfl⟩ (by kernel_rfl) rfl allocLeastDone.plain (by kernel_rfl)
#print axioms allocLeast_holds
end Go.Proofs.YtghdpapdnkibdaaGreatDoor
