/- Crash: what may be left; the plain side. -/
import Derived.Test.YtpjeidihcjljnaaGreatDoorCh
import Derived.Test.YtpjeidihcjljnaaGreatDoorSrt
namespace Go.Proofs.YtpjeidihcjljnaaGreatDoor
set_option linter.unusedSimpArgs false
set_option linter.unusedVariables false
open Go.RowKit Go.MapKept
open Go.ChangeMaps (setBlock)
/-- A row of ints that a slice leads to. -/
def RowI (w : World) (a : Option Addr) (l : List Int) : Prop :=
  ∀ i, i < l.length → ∃ b off, a = some ⟨b, off, none⟩ ∧ w.cell? ⟨b, off + i, none⟩ = some (.int .i64 (l.getD i 0)) ∧ -9223372036854775808 ≤ l.getD i 0 ∧ l.getD i 0 ≤ 9223372036854775807
/-- From the cells of a slice that came in to a row of ints. -/
theorem rowI_of_cells {W : World} {x : Addr} {len cap : Nat} {zs : List Int} (hl : len ≤ cap) (hm : cap ≤ maxLen) (hz : zs.length = cap)
    (hcell : ∀ i, i < zs.length → W.cell? (x.add i) = some (.int .i64 (zs.getD i 0))) (hwz : ∀ n ∈ zs, (Lit.int .i64 n).wf = true) :
    ∃ l : List Int, len = l.length ∧ RowI W (some x) l ∧ l.length ≤ maxLen := by
  refine ⟨zs.take len, by simp; omega, ?_, by simp; omega⟩
  intro i hi
  have hi' : i < len := by simp at hi; omega
  have hiz : i < zs.length := by omega
  have hc := hcell i hiz
  have hb := bd64 (hwz _ (List.getElem_mem hiz))
  obtain ⟨b, off, spot⟩ := x
  have hspot : spot = none := by
    have h0 := hcell 0 (by omega)
    simpa [Addr.add] using World.cell?_spot h0
  subst hspot
  have e : (zs.take len).getD i 0 = zs[i] := by simp [List.getD, List.getElem?_take, hi', hiz]
  have e2 : zs.getD i 0 = zs[i] := by simp [List.getD, hiz]
  rw [Addr.add_lit, e2] at hc
  rw [e]
  exact ⟨b, off, rfl, hc, hb⟩
theorem RowI.nil (w : World) (a : Option Addr) : RowI w a [] := by intro i hi; simp at hi
theorem RowI.blk {w w' : World} {a : Option Addr} {l : List Int} (h : RowI w a l) (e : ∀ b, b < w.heap.size → (∃ c t fr, w.heap[b]? = some (.cells c t fr)) → w'.heap[b]? = w.heap[b]?) : RowI w' a l := by
  intro i hi
  obtain ⟨b, off, ea, hc, hl⟩ := h i hi
  refine ⟨b, off, ea, ?_, hl⟩
  have hlt := World.block_lt_of_cell? _ _ hc
  have : w'.cell? ⟨b, off + i, none⟩ = w.cell? ⟨b, off + i, none⟩ := cell_blk (e b hlt (by
    unfold World.cell? at hc
    split at hc
    · rename_i c t fr q; exact ⟨c, t, fr, q⟩
    · cases hc))
  rw [this]; exact hc
theorem RowI.below {w w' : World} {a : Option Addr} {l : List Int} (h : RowI w a l) (hb : Below w.heap.size w w') : RowI w' a l := h.blk fun b hb' _ => hb.block b hb'
theorem RowI.heap {w w' : World} {a : Option Addr} {l : List Int} (h : RowI w a l) (e : w'.heap = w.heap) : RowI w' a l := h.blk fun b _ _ => by rw [e]
/-- A map's block is none of the row's. -/
theorem RowI.setBlock {w : World} {a : Option Addr} {l : List Int} (h : RowI w a l) {g : Nat} {es : Array MapEntry} {c : Nat} (hg : w.heap[g]? = some (.map es c)) (o : Obj) : RowI (setBlock w g o) a l :=
  h.blk fun b _ ⟨cs, t, fr, hc⟩ => setBlock_other _ _ _ _ (fun e => by rw [e, hg] at hc; cases hc)
def Dv.rank (d : Dv) : Nat → Nat
  | 0 => 0
  | k + 1 => d.rank k + if d.pend k = [] then 0 else 1
def pickOf (l : List Int) (i w : Nat) : Nat := if i < l.length then (l.getD i 0 % ((w : Int) + 1)).toNat else 0
theorem pickOf_le (l : List Int) (i w : Nat) : pickOf l i w ≤ w := by
  unfold pickOf
  split
  · have := Int.emod_lt_of_pos (l.getD i 0) (show (0 : Int) < (w : Int) + 1 by omega)
    omega
  · omega
def Dv.crashBase (d : Dv) (l : List Int) (k : Nat) : List Nat := d.at k (if d.pend k = [] then 0 else pickOf l (d.rank k) (d.pend k).length)
def Dv.crash (d : Dv) (l : List Int) : Dv := fresh d.n (d.crashBase l)
theorem crashBase_ok {d : Dv} (h : d.Ok) (l : List Int) (k : Nat) : (d.crashBase l k).length = 512 ∧ ∀ i, (d.crashBase l k).getD i 0 < 256 := by
  refine h.at ?_
  split
  · omega
  · exact pickOf_le _ _ _
theorem Dv.Ok.crash {d : Dv} (h : d.Ok) (l : List Int) : (d.crash l).Ok := fresh_ok h.n1 h.n2 (crashBase_ok h l)
/-- These are the blocks with pending writes, by rising numbers. -/
structure KeysOf (d : Dv) (ks : List Nat) : Prop where
  mem : ∀ k, k ∈ ks ↔ k < d.n ∧ d.pend k ≠ []
  asc : ks.Pairwise (· < ·)
theorem KeysOf.of {d : Dv} {ks : List Nat} (h1 : ∀ k, k ∈ ks ↔ ∃ u, d.turns k = some u) (h2 : ks.Pairwise (· < ·)) : KeysOf d ks := by
  refine ⟨fun k => (h1 k).trans ⟨fun ⟨u, hu⟩ => ⟨(turns_some hu).1, (turns_some hu).2.1⟩, fun ⟨a, b⟩ => ⟨_, if_pos ⟨a, b⟩⟩⟩, h2⟩
theorem count_lt : ∀ (ks : List Nat), ks.Pairwise (· < ·) → ∀ m, ks.countP (fun x => decide (x < m + 1)) = ks.countP (fun x => decide (x < m)) + if m ∈ ks then 1 else 0
  | [], _, m => by simp
  | a :: r, h, m => by
    obtain ⟨h1, h2⟩ := List.pairwise_cons.1 h
    have ih := count_lt r h2 m
    rw [List.countP_cons, List.countP_cons, ih]
    by_cases e : m = a
    · subst e
      have hm : m ∉ r := fun q => by have := h1 m q; omega
      simp [hm]
    · have : (m ∈ a :: r) ↔ m ∈ r := by simp [e]
      by_cases hl : a < m
      · simp [hl, this, show a < m + 1 by omega]; omega
      · simp [hl, this, show ¬ a < m + 1 by omega]
theorem count_at : ∀ (ks : List Nat), ks.Pairwise (· < ·) → ∀ i, i < ks.length → ks.countP (fun x => decide (x < ks.getD i 0)) = i
  | [], _, i, hi => by simp at hi
  | a :: r, h, i, hi => by
    obtain ⟨h1, h2⟩ := List.pairwise_cons.1 h
    cases i with
    | zero =>
      rw [List.countP_eq_zero]
      intro x hx
      simp only [List.getD_cons_zero, decide_eq_true_eq]
      rcases List.mem_cons.1 hx with rfl | q
      · omega
      · have := h1 x q; omega
    | succ i =>
      have hir : i < r.length := by simpa using hi
      rw [List.getD_cons_succ, List.countP_cons, count_at r h2 i hir]
      have hm : r.getD i 0 ∈ r := by simp [List.getD, hir]
      have := h1 _ hm
      rw [if_pos (by simpa using this)]
theorem KeysOf.rank {d : Dv} {ks : List Nat} (h : KeysOf d ks) : ∀ m, m ≤ d.n → d.rank m = ks.countP (fun x => decide (x < m))
  | 0, _ => by simp [Dv.rank]
  | m + 1, hm => by
    rw [Dv.rank, h.rank m (by omega), count_lt ks h.asc m]
    by_cases e : d.pend m = []
    · have : m ∉ ks := fun q => ((h.mem m).1 q).2 e
      simp [e, this]
    · have : m ∈ ks := (h.mem m).2 ⟨by omega, e⟩
      simp [e, this]
theorem KeysOf.rank_at {d : Dv} {ks : List Nat} (h : KeysOf d ks) (i : Nat) (hi : i < ks.length) : d.rank (ks.getD i 0) = i := by
  have hm : ks.getD i 0 ∈ ks := by simp [List.getD, hi]
  rw [h.rank _ (by have := ((h.mem _).1 hm).1; omega), count_at ks h.asc i hi]
/-- Behind j of the blocks. -/
structure CrAt (d : Dv) (l : List Int) (ks : List Nat) (j : Nat) (B : Nat → List Nat) : Prop where
  done : ∀ i, i < j → i < ks.length → B (ks.getD i 0) = d.crashBase l (ks.getD i 0)
  todo : ∀ k, k ∉ ks.take j → B k = d.base k
  ok : ∀ k, (B k).length = 512 ∧ ∀ i, (B k).getD i 0 < 256
theorem getD_inj {ks : List Nat} (h : ks.Pairwise (· < ·)) {i j : Nat} (hi : i < ks.length) (hj : j < ks.length) (e : ks.getD i 0 = ks.getD j 0) : i = j := by
  have a := count_at ks h i hi
  have b := count_at ks h j hj
  rw [e] at a
  omega
theorem CrAt.start {d : Dv} (h : d.Ok) (l : List Int) (ks : List Nat) : CrAt d l ks 0 d.base := ⟨fun i hi => by omega, fun _ _ => rfl, h.base⟩
theorem CrAt.step {d : Dv} {l : List Int} {ks : List Nat} {j : Nat} {B : Nat → List Nat} (h : CrAt d l ks j B) (hd : d.Ok) (hK : KeysOf d ks) (hj : j < ks.length) (c : List Nat) (hc : c = d.crashBase l (ks.getD j 0)) :
    CrAt d l ks (j + 1) (fun x => if x = ks.getD j 0 then c else B x) := by
  refine ⟨fun i hi hl => ?_, fun k hk => ?_, fun k => ?_⟩
  · by_cases e : ks.getD i 0 = ks.getD j 0
    · rw [if_pos e, e, hc]
    · rw [if_neg e]
      have : i ≠ j := fun q => e (by rw [q])
      exact h.done i (by omega) hl
  · have e : k ≠ ks.getD j 0 := fun q => hk (by
      rw [List.take_succ_eq_append_getElem hj, q, List.mem_append]
      exact .inr (by simp [List.getD, hj]))
    simp only [if_neg e]
    exact h.todo k (fun q => hk (by
      rw [List.take_succ_eq_append_getElem hj, List.mem_append]
      exact .inl q))
  · split
    · rw [hc]; exact crashBase_ok hd l _
    · exact h.ok k
theorem mem_take {ks : List Nat} {k : Nat} (h : k ∈ ks) : ∃ i, i < ks.length ∧ ks.getD i 0 = k := by
  obtain ⟨i, hi, e⟩ := List.getElem_of_mem h
  exact ⟨i, hi, by simp [List.getD, hi, e]⟩
/-- All are done, or picks tell of no more. -/
theorem CrAt.last {d : Dv} {l : List Int} {ks : List Nat} {j : Nat} {B : Nat → List Nat} (h : CrAt d l ks j B) (hK : KeysOf d ks) (hj : ks.length ≤ j ∨ l.length ≤ j) : ∀ k, k < d.n → B k = d.crashBase l k := by
  intro k hk
  by_cases hp : d.pend k = []
  · have : k ∉ ks := fun q => ((hK.mem k).1 q).2 hp
    rw [h.todo k (fun q => this (List.mem_of_mem_take q))]
    simp [Dv.crashBase, hp, Dv.at]
  · obtain ⟨i, hi, rfl⟩ := mem_take ((hK.mem k).2 ⟨hk, hp⟩)
    by_cases hij : i < j
    · exact h.done i hij hi
    · have hn : ks.getD i 0 ∉ ks.take j := fun q => by
        obtain ⟨m, hm, e⟩ := mem_take q
        have hm2 : m < ks.length ∧ m < j := by simp at hm; omega
        have e2 : (ks.take j).getD m 0 = ks.getD m 0 := by simp [List.getD, List.getElem?_take, hm2.2]
        rw [e2] at e
        have := getD_inj hK.asc hm2.1 hi e
        omega
      rw [h.todo _ hn]
      have hl : ¬ d.rank (ks.getD i 0) < l.length := by rw [hK.rank_at i hi]; omega
      unfold Dv.crashBase pickOf
      rw [if_neg hp, if_neg hl]
      simp [Dv.at]
end Go.Proofs.YtpjeidihcjljnaaGreatDoor
