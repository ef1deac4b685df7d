/- What comes in: bytes, rows of bytes, opened. -/
import Derived.Test.YthbomgjjdmogpaaAc
import Derived.Deep.Slices
import Derived.ChangeSlices
import Derived.SizedLaws
namespace Go.Proofs.Ythbomgjjdmogpaa
set_option linter.unusedSimpArgs false
set_option linter.unusedVariables false
open Go.RowKit Go.ChangeShapes Go.WideShapes Go.ChangeAt
theorem cells23 : Try.prog.cellsOf 23 = 1 := by kernel_rfl
theorem bytesOf5 : Try.prog.bytesOf 5 = 1 := by kernel_rfl
theorem weights_at {H : Type} {ts : List TypeId} {ds : List (DataW H)} {j : Nat} {t : TypeId} {d : DataW H} (ht : ts[j]? = some t) (hd : ds[j]? = some d) (h : (DataW.weightsEach Try.prog ts ds).all (· ≤ reachBytes) = true) : ∀ n ∈ d.weights Try.prog t, n ≤ reachBytes := by
  intro n hn
  have := List.all_eq_true.1 h n (DataW.weights_mem_each ht hd n hn)
  simpa using this
theorem bytes_of {H : Type} {enc : TypeId × Value → H} {W : World} {base fuel : Nat} {held : Bool} {a0 : Option Addr} {L cap0 : Nat} {x : DataW H × List MemPlace}
    (h : DataW.trod enc Try.prog W base (fun _ => true) held fuel 23 [.slice a0 L cap0] = some x) (hw : ∀ n ∈ x.1.weights Try.prog 23, n ≤ reachBytes) : ∃ l : List Nat, L = l.length ∧ Came W a0 cap0 l := by
  rcases open_ints Try.underlying23 Try.underlying5 (by kernel_rfl) h with ⟨hcs, _⟩ | ⟨x0, l, c, zs, hcs, _, hl, hm, hz, hd, hcell, hwz⟩
  · simp [Value.cells] at hcs
    obtain ⟨rfl, rfl, rfl⟩ := hcs
    exact ⟨[], rfl, ⟨Row.nil _ _, by simp, by unfold maxLen; omega, fun _ => rfl, fun h0 => by simp at h0⟩, by simp⟩
  · simp [Value.cells] at hcs
    obtain ⟨rfl, rfl, rfl⟩ := hcs
    have hz2 : zs.length = cap0 := by simpa using hz
    obtain ⟨l, e1, e2, e3⟩ := row_of_cells hl hm hz2 hcell hwz
    have hs : ((zs.take L).length + (zs.drop L).length) * 1 ≤ reachBytes := hw _ (by rw [hd]; simp [DataW.weights, Try.underlying23, bytesOf5, lits])
    simp only [List.length_take, List.length_drop, reachBytes] at hs
    exact ⟨l, e1, ⟨e2, by rw [← e1]; exact hl, hm, fun e => (by cases e), fun _ x _ hx => by simp at hx⟩, by omega⟩
/-- Rows of bytes that came in. -/
structure RCame (w : World) (a : Option Addr) (cap : Nat) (fs : List Fr) : Prop where
  cells : FCells w a fs
  each : ∀ f, f ∈ fs → Came w f.a f.cap f.b
  len : fs.length ≤ 140737488351232
theorem list_of {α : Type} (dflt : α) (R : Nat → α → Prop) (L : Nat) (h : ∀ i, i < L → ∃ a, R i a) : ∃ l : List α, l.length = L ∧ ∀ i, i < L → R i (l.getD i dflt) := by
  induction L with
  | zero => exact ⟨[], rfl, fun i hi => by omega⟩
  | succ L ih =>
    obtain ⟨l, hl, hr⟩ := ih (fun i hi => h i (by omega))
    obtain ⟨a, ha⟩ := h L (by omega)
    refine ⟨l ++ [a], by simp [hl], fun i hi => ?_⟩
    by_cases e : i < L
    · have : (l ++ [a]).getD i dflt = l.getD i dflt := by simp [List.getD, List.getElem?_append, show i < l.length by omega]
      rw [this]; exact hr i e
    · obtain rfl : i = L := by omega
      have : (l ++ [a]).getD i dflt = a := by simp [List.getD, ← hl]
      rw [this]; exact ha
theorem bytesOf23 : Try.prog.bytesOf 23 = 24 := by kernel_rfl
theorem mem_all {H : Type} {P : Program} {e : TypeId} : ∀ {ds : List (DataW H)} {d : DataW H}, d ∈ ds → ∀ n ∈ d.weights P e, n ∈ DataW.weightsAll P e ds
  | d0 :: r, d, hd, n, hn => by
    simp only [DataW.weightsAll, List.mem_append]
    rcases List.mem_cons.1 hd with rfl | h
    · exact .inl hn
    · exact .inr (mem_all h n hn)
theorem rows_of {H : Type} {enc : TypeId × Value → H} {W : World} {base fuel : Nat} {held : Bool} {a0 : Option Addr} {L cap0 : Nat} {x : DataW H × List MemPlace}
    (h : DataW.trod enc Try.prog W base (fun _ => true) held fuel 22 [.slice a0 L cap0] = some x) (hw : ∀ n ∈ x.1.weights Try.prog 22, n ≤ reachBytes) : ∃ l : List Fr, L = l.length ∧ RCame W a0 cap0 l := by
  rcases Go.Deep.open_slice1 Try.underlying22 cells23 h with ⟨hcs, _⟩ | ⟨ad, len, cap, m, n, V, D, Pl, hcs, _, hl, hm, hmm, hd, hx⟩
  · simp at hcs
    obtain ⟨rfl, rfl, rfl⟩ := hcs
    exact ⟨[], rfl, fun i hi => by simp at hi, fun f hf => by simp at hf, by simp⟩
  · simp at hcs
    obtain ⟨rfl, rfl, rfl⟩ := hcs
    have hmc : m = cap0 := by simpa using hmm
    have hL : (L + (m - L)) * 24 ≤ reachBytes := hw _ (by rw [hd]; simp [DataW.weights, Try.underlying22, bytesOf23])
    have each : ∀ i, i < L → ∃ f : Fr, (∃ g off, some ad = some ⟨g, off, none⟩ ∧ W.cell? ⟨g, off + i, none⟩ = some f.v) ∧ Came W f.a f.cap f.b := by
      intro i hi
      obtain ⟨h1, h2⟩ := hx i (by omega)
      obtain ⟨b, off, spot⟩ := ad
      have hsp : spot = none := by
        have h0 := (hx 0 (by omega)).1
        simpa [Addr.add] using World.cell?_spot h0
      subst hsp
      obtain ⟨a1, l1, k1, hv⟩ : ∃ a1 l1 c1, V i = .slice a1 l1 c1 := by
        rcases Go.Deep.open_slice Try.underlying23 h2 with ⟨hcs, _⟩ | ⟨ad, len, cap, m, n, D, Pl, hcs, _⟩
        · simp at hcs; exact ⟨_, _, _, hcs⟩
        · simp at hcs; exact ⟨_, _, _, hcs⟩
      rw [hv] at h1 h2
      have hmem : ∀ n ∈ (D i).weights Try.prog 23, n ≤ reachBytes := fun n hn => hw n (by
        rw [hd]
        simp only [DataW.weights, Try.underlying22, List.mem_cons, List.mem_append]
        exact .inr (.inl (mem_all (List.mem_map.2 ⟨i, by simpa using hi, rfl⟩) n hn)))
      obtain ⟨l, rfl, hc⟩ := bytes_of h2 hmem
      rw [Addr.add_lit] at h1
      exact ⟨⟨a1, k1, l⟩, ⟨b, off, rfl, h1⟩, hc⟩
    obtain ⟨l, hll, hr⟩ := list_of frz _ L each
    refine ⟨l, hll.symm, fun i hi => by rw [hll] at hi; exact (hr i hi).1, fun f hf => ?_, by simp only [reachBytes] at hL; omega⟩
    obtain ⟨i, hi, rfl⟩ := List.getElem_of_mem hf
    have := (hr i (by omega)).2
    simpa [List.getD, hi] using this
end Go.Proofs.Ythbomgjjdmogpaa
