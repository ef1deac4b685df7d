/- The arguments: rows of changes, rows of steps, opened; small. -/
import Derived.Test.YtmodjgailmpfmaaDoorLg
import Derived.Deep.Slices
import Derived.ChangeSlices
namespace Go.Proofs.YtmodjgailmpfmaaDoor
set_option linter.unusedSimpArgs false
set_option linter.unusedVariables false
open Go.RowKit Go.MapKept Go.ChangeShapes Go.WideShapes Go.ChangeAt
theorem cells67 : Tryd.prog.cellsOf 67 = 2 := by kernel_rfl
theorem cells33 : Tryd.prog.cellsOf 33 = 2 := by kernel_rfl
theorem cells3 : Tryd.prog.cellsOf 3 = 1 := by kernel_rfl
theorem cells31 : Tryd.prog.cellsOf 31 = 1 := by kernel_rfl
theorem list_of {α : Type} (dflt : α) (R : Nat → α → Prop) (L : Nat) (h : ∀ i, i < L → ∃ a, R i a) : ∃ l : List α, l.length = L ∧ ∀ i, i < L → R i (l.getD i dflt) := by
  induction L with
  | zero => exact ⟨[], rfl, fun i hi => by omega⟩
  | succ L ih =>
    obtain ⟨l, hl, hr⟩ := ih (fun i hi => h i (by omega))
    obtain ⟨a, ha⟩ := h L (by omega)
    refine ⟨l ++ [a], by simp [hl], fun i hi => ?_⟩
    by_cases e : i < L
    · have : (l ++ [a]).getD i dflt = l.getD i dflt := by simp [List.getD, List.getElem?_append, show i < l.length by omega]
      rw [this]; exact hr i e
    · obtain rfl : i = L := by omega
      have : (l ++ [a]).getD i dflt = a := by simp [List.getD, ← hl]
      rw [this]; exact ha
set_option maxRecDepth 100000 in
theorem chgs_of {H : Type} {enc : TypeId × Value → H} {W : World} {fuel : Nat} {a0 : Option Addr} {L cap0 : Nat} {x : DataW H × List MemPlace}
    (h : DataW.trod enc Tryd.prog W 0 (fun _ => true) true fuel 31 [.slice a0 L cap0] = some x) : ∃ l : List (Int × Int), L = l.length ∧ LRow W a0 l ∧ l.length ≤ 9223372036854775807 := by
  rcases Go.Deep.open_slice Tryd.underlying31 h with ⟨hcs, _⟩ | ⟨ad, len, cap, m, n, D, Pl, hcs, _, hl, hm, hmm, _, hx⟩
  · simp at hcs
    obtain ⟨rfl, rfl, rfl⟩ := hcs
    exact ⟨[], rfl, LRow.nil _ _, by simp⟩
  · simp at hcs
    obtain ⟨rfl, rfl, rfl⟩ := hcs
    unfold maxLen at hm
    have hlm : L ≤ m := by rw [hmm]; simp; omega
    have each : ∀ i, i < L → ∃ s : Int × Int, ∃ b off, some ad = some ⟨b, off, none⟩ ∧ W.cell? ⟨b, off + i * 2, none⟩ = some (.int .i64 s.1) ∧ W.cell? ⟨b, off + i * 2 + 1, none⟩ = some (.int .i64 s.2) ∧ (-9223372036854775808 ≤ s.1 ∧ s.1 ≤ 9223372036854775807) ∧ (-9223372036854775808 ≤ s.2 ∧ s.2 ≤ 9223372036854775807) := by
      intro i hi
      have hsp : ad.spot = none := by
        obtain ⟨cs0, h10, _⟩ := hx 0 (by omega)
        rw [cells67] at h10
        obtain ⟨_, hlen0, hcell0⟩ := World.cells?_some h10
        have e := hcell0 0 (by omega)
        rw [List.getElem?_eq_getElem (by omega)] at e
        simpa [Addr.add] using World.cell?_spot e
      obtain ⟨b, off, spot⟩ := ad
      simp only at hsp
      subst hsp
      obtain ⟨cs', h1, h2⟩ := hx i (by omega)
      rw [cells67] at h1
      obtain ⟨_, hlen, hcell⟩ := World.cells?_some h1
      obtain ⟨xs, k, hk, hxy, _, hxl, hf⟩ := DataW.trod_struct Tryd.underlying67 h2
      match xs, hxl, cs', hlen with
      | [y0, y1], _, [v0, v1], _ =>
        have g0 := hf 0 _ rfl
        have g1 := hf 1 _ rfl
        simp [cells3] at g0 g1
        have e0 := hcell 0 (by omega)
        have e1 := hcell 1 (by omega)
        obtain ⟨n0, q0, _, w0⟩ := DataW.trod_int Tryd.underlying3 g0
        obtain ⟨n1, q1, _, w1⟩ := DataW.trod_int Tryd.underlying3 g1
        simp at q0 q1
        subst q0; subst q1
        rw [Addr.add_lit, Addr.add_lit] at e0 e1
        simp at e0 e1
        exact ⟨(n0, n1), b, off, rfl, e0, e1, bd64 w0, bd64 w1⟩
    obtain ⟨l, hll, hr⟩ := list_of (0, 0) _ L each
    exact ⟨l, hll.symm, fun i hi => by rw [hll] at hi; exact hr i hi, by omega⟩
structure Stp where
  kind : Int
  ca : Option Addr
  cl : List (Int × Int)
  cap : Nat
def stp0 : Stp := ⟨0, none, [], 0⟩
def SRow (w : World) (la : Option Addr) (ss : List Stp) : Prop := ∀ i, i < ss.length → ∃ lk off, la = some ⟨lk, off, none⟩ ∧ w.cell? ⟨lk, off + i * 2, none⟩ = some (.int .i64 (ss.getD i stp0).kind) ∧ w.cell? ⟨lk, off + i * 2 + 1, none⟩ = some (.slice (ss.getD i stp0).ca (ss.getD i stp0).cl.length (ss.getD i stp0).cap) ∧ LRow w (ss.getD i stp0).ca (ss.getD i stp0).cl ∧ (ss.getD i stp0).cl.length ≤ 9223372036854775807
theorem SRow.below {w w' : World} {la : Option Addr} {ss : List Stp} (h : SRow w la ss) (hb : Below w.heap.size w w') : SRow w' la ss := fun i hi => by
  obtain ⟨lk, off, e, h1, h2, h3, h4⟩ := h i hi
  exact ⟨lk, off, e, by rw [hb.cell (World.block_lt_of_cell? _ _ h1)]; exact h1, by rw [hb.cell (World.block_lt_of_cell? _ _ h2)]; exact h2, h3.below hb, h4⟩
set_option maxRecDepth 100000 in
theorem steps_of {H : Type} {enc : TypeId × Value → H} {W : World} {fuel : Nat} {a0 : Option Addr} {L cap0 : Nat} {x : DataW H × List MemPlace}
    (h : DataW.trod enc Tryd.prog W 0 (fun _ => true) true fuel 22 [.slice a0 L cap0] = some x) : ∃ l : List Stp, L = l.length ∧ SRow W a0 l ∧ l.length ≤ 9223372036854775807 := by
  rcases Go.Deep.open_slice Tryd.underlying22 h with ⟨hcs, _⟩ | ⟨ad, len, cap, m, n, D, Pl, hcs, _, hl, hm, hmm, _, hx⟩
  · simp at hcs
    obtain ⟨rfl, rfl, rfl⟩ := hcs
    exact ⟨[], rfl, fun i hi => by simp at hi, by simp⟩
  · simp at hcs
    obtain ⟨rfl, rfl, rfl⟩ := hcs
    unfold maxLen at hm
    have hlm : L ≤ m := by rw [hmm]; simp; omega
    have each : ∀ i, i < L → ∃ s : Stp, ∃ b off, some ad = some ⟨b, off, none⟩ ∧ W.cell? ⟨b, off + i * 2, none⟩ = some (.int .i64 s.kind) ∧ W.cell? ⟨b, off + i * 2 + 1, none⟩ = some (.slice s.ca s.cl.length s.cap) ∧ LRow W s.ca s.cl ∧ s.cl.length ≤ 9223372036854775807 := by
      intro i hi
      have hsp : ad.spot = none := by
        obtain ⟨cs0, h10, _⟩ := hx 0 (by omega)
        rw [cells33] at h10
        obtain ⟨_, hlen0, hcell0⟩ := World.cells?_some h10
        have e := hcell0 0 (by omega)
        rw [List.getElem?_eq_getElem (by omega)] at e
        simpa [Addr.add] using World.cell?_spot e
      obtain ⟨b, off, spot⟩ := ad
      simp only at hsp
      subst hsp
      obtain ⟨cs', h1, h2⟩ := hx i (by omega)
      rw [cells33] at h1
      obtain ⟨_, hlen, hcell⟩ := World.cells?_some h1
      obtain ⟨xs, k, hk, hxy, _, hxl, hf⟩ := DataW.trod_struct Tryd.underlying33 h2
      match xs, hxl, cs', hlen with
      | [y0, y1], _, [v0, v1], _ =>
        have g0 := hf 0 _ rfl
        have g1 := hf 1 _ rfl
        simp [cells3, cells31] at g0 g1
        have e0 := hcell 0 (by omega)
        have e1 := hcell 1 (by omega)
        obtain ⟨n0, q0, _, w0⟩ := DataW.trod_int Tryd.underlying3 g0
        simp at q0
        subst q0
        rw [Addr.add_lit, Addr.add_lit] at e0 e1
        simp at e0 e1
        obtain ⟨a1, l1, c1, rfl⟩ : ∃ a1 l1 c1, v1 = .slice a1 l1 c1 := by
          rcases Go.Deep.open_slice Tryd.underlying31 g1 with ⟨hcs, _⟩ | ⟨ad, len, cap, m, n, D, Pl, hcs, _⟩
          · simp at hcs; exact ⟨_, _, _, hcs⟩
          · simp at hcs; exact ⟨_, _, _, hcs⟩
        obtain ⟨cl, rfl, hr, hmx⟩ := chgs_of g1
        exact ⟨⟨n0, a1, cl, c1⟩, b, off, rfl, e0, e1, hr, hmx⟩
    obtain ⟨l, hll, hr⟩ := list_of stp0 _ L each
    exact ⟨l, hll.symm, fun i hi => by rw [hll] at hi; exact hr i hi, by omega⟩
def SmallPost (n : Nat) (w : World) (e : Ending) (w' : World) : Prop := ∃ b : Bool, e = .returned (.bool b) ∧ (b = true → n ≤ 40) ∧ w' = w
theorem small_any (la : Option Addr) (cap : Nat) (ss : List Stp) (w : World) (hr : SRow w la ss) (hl : ss.length ≤ 9223372036854775807) :
    Calls Tryd.prog 14 #[.slice la ss.length cap] w (SmallPost ss.length w) := by
  have hlI : (ss.length : Int) ≤ 9223372036854775807 := by omega
  go_enter Tryd.func14, Tryd.ntmps14
  go_wp2
  go_loop [3, 4] (fun n i => ∃ (k : Nat) (z : Int), k ≤ ss.length ∧ i = .int .i64 (k : Int) ∧ n = .int .i64 z) (fun _ i => ss.length - (intOf i).toNat)
  case atStart => exact ⟨0, 0, by omega, rfl, rfl⟩
  case round =>
    obtain ⟨k, z, hk, rfl, rfl⟩ := hrel
    by_cases hlt : k < ss.length
    · have hltI : (k : Int) < (ss.length : Int) := by omega
      obtain ⟨lk, off, rfl, r1, r2, _, _⟩ := hr k hlt
      generalize ss.getD k stp0 = sp at *
      generalize sp.cl.length = n1 at *
      clear hr
      go_wp2
      exact ⟨⟨k + 1, _, by omega, by go_num, rfl⟩, by simp [intOf]; omega⟩
    · by_cases h40 : ss.length ≤ 40
      · have h40I : (ss.length : Int) ≤ 40 := by omega
        clear hr
        go_wp2
        go_ret
        exact ⟨_, rfl, fun _ => h40, rfl⟩
      · have h40I : ¬ (ss.length : Int) ≤ 40 := by omega
        clear hr
        go_wp2
        go_ret
        exact ⟨_, rfl, (fun q => absurd q (by decide)), rfl⟩
end Go.Proofs.YtmodjgailmpfmaaDoor
