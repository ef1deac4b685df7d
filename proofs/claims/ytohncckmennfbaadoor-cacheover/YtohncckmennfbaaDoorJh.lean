/- homes: those that something is committed of, rising. -/
import Derived.Test.YtohncckmennfbaaDoorJf
import Derived.Test.YtohncckmennfbaaDoorSrt
import Derived.Test.YtohncckmennfbaaDoorCr
import Derived.Test.YtohncckmennfbaaDoorJt
import Derived.Shelf.Slices.CompactI
import Derived.Sort.OwnSortedInts
namespace Go.Proofs.YtohncckmennfbaaDoor
set_option linter.unusedSimpArgs false
set_option linter.unusedVariables false
open Go.RowKit Go.MapKept Go.Proofs Go.Sort Go.Shelf
def compI_ren : Go.Shelf.Ren := ⟨fun | 20 => 87 | n => n, fun | 22 => 47 | n => n, fun | n => n⟩
theorem compI : Go.Proofs.Lays2.n20 Tryd.prog compI_ren := {
  mixed := by kernel_rfl
  f20 := Tryd.func87.trans (congrArg some (by kernel_rfl))
  t0 := Tryd.underlying0
  a0 := Tryd.isAgg0
  z0 := Tryd.sizeOf0
  v0 := Tryd.zeroValue0
  t3 := Tryd.underlying3
  a3 := Tryd.isAgg3
  z3 := Tryd.sizeOf3
  v3 := Tryd.zeroValue3
  t4 := Tryd.underlying4
  a4 := Tryd.isAgg4
  z4 := Tryd.sizeOf4
  v4 := Tryd.zeroValue4
  t22 := Tryd.underlying47
  a22 := Tryd.isAgg47
  z22 := Tryd.sizeOf47
  v22 := Tryd.zeroValue47
  i3 := by kernel_rfl }
/-- Of a sorted row, each once. -/
theorem compact_mem (d : Array Int) : ∀ m x, x ∈ Lib.compactUpTo d m ↔ ∃ j, j < m ∧ d[j]! = x
  | 0, x => by simp [Lib.compactUpTo]
  | m + 1, x => by
    rw [Lib.compactUpTo_succ, List.mem_append, compact_mem d m x]
    constructor
    · rintro (⟨j, hj, e⟩ | h)
      · exact ⟨j, by omega, e⟩
      · split at h
        · exact ⟨m, by omega, by rw [List.mem_singleton] at h; exact h.symm⟩
        · simp at h
    · rintro ⟨j, hj, e⟩
      by_cases hjm : j < m
      · exact .inl ⟨j, hjm, e⟩
      · obtain rfl : j = m := by omega
        by_cases hk : Lib.keeps d j = true
        · exact .inr (by rw [if_pos hk]; simp [e])
        · have : ¬ (j = 0 ∨ d[j]! ≠ d[j - 1]!) := by simpa [Lib.keeps] using hk
          have h0 : j ≠ 0 := fun c => this (.inl c)
          have h1 : d[j]! = d[j - 1]! := Classical.byContradiction fun c => this (.inr c)
          exact .inl ⟨j - 1, by omega, by rw [← h1]; exact e⟩
theorem compact_asc (d : Array Int) (hs : ∀ i j, i ≤ j → j < d.size → d[i]! ≤ d[j]!) : ∀ m, m ≤ d.size → (Lib.compactUpTo d m).Pairwise (· < ·)
  | 0, _ => by simp [Lib.compactUpTo]
  | m + 1, h => by
    rw [Lib.compactUpTo_succ]
    refine List.pairwise_append.2 ⟨compact_asc d hs m (by omega), by split <;> simp, fun a ha b hb => ?_⟩
    split at hb
    · rename_i hk
      have hb' : b = d[m]! := by simpa using hb
      obtain ⟨j, hj, rfl⟩ := (compact_mem d m a).1 ha
      have hk' : m = 0 ∨ d[m]! ≠ d[m - 1]! := by simpa [Lib.keeps] using hk
      rcases hk' with h0 | h0
      · omega
      · have h1 := hs j (m - 1) (by omega) (by omega)
        have h2 := hs (m - 1) m (by omega) (by omega)
        rw [hb']
        omega
    · simp at hb
/-- slices.Sort and slices.Compact of a row of one's own. -/
theorem sorted_le {zs : List Int} : ∀ i j, i ≤ j → j < (zs.mergeSort fun x y => decide (x ≤ y)).toArray.size → (zs.mergeSort fun x y => decide (x ≤ y)).toArray[i]! ≤ (zs.mergeSort fun x y => decide (x ≤ y)).toArray[j]! := by
  have hp : (zs.mergeSort fun x y => decide (x ≤ y)).Pairwise (fun x y => decide (x ≤ y) = true) := List.pairwise_mergeSort (fun a b c h1 h2 => by simp at h1 h2 ⊢; omega) (fun a b => by simp; omega) zs
  intro i j hij hj
  generalize zs.mergeSort (fun x y => decide (x ≤ y)) = l at *
  have hj' : j < l.length := by simpa using hj
  have hi' : i < l.length := by omega
  have e : ∀ q, q < l.length → l.toArray[q]! = l.getD q 0 := fun q hq => by simp [List.getD, hq]
  rw [e i hi', e j hj']
  rcases Nat.lt_or_ge i j with h | h
  · have := List.pairwise_iff_getElem.1 hp i j hi' hj' h
    simpa [List.getD, hi', hj'] using this
  · obtain rfl : i = j := by omega
    exact Int.le_refl _
def pnum : Value → Nat
  | .agg cs => (iof (cs.getD 0 undef)).toNat * 65536 + (iof (cs.getD 1 undef)).toNat
  | _ => 0
theorem pnum_mk (p : Nat × Nat) : pnum (mkP p) = p.1 * 65536 + p.2 := by simp [pnum, mkP, iof]
theorem few2 {w : World} {b m : Nat} {f : Nat × Nat → Option Value} (h : MapIs w b mkP f m) (hk : ∀ p v, f p = some v → p.1 < 4 ∧ p.2 < 65536) : MapIs w b mkP f 262144 := by
  obtain ⟨es, c, hb, E, _⟩ := h
  refine ⟨es, c, hb, E, ?_⟩
  have key : ∀ x ∈ es.toList, ∃ p : Nat × Nat, x.key = mkP p ∧ p.1 < 4 ∧ p.2 < 65536 := fun x hx => by
    obtain ⟨k, e1, e2⟩ := E.keys x hx
    exact ⟨k, e1, hk k _ e2⟩
  have := fewNats 262144 (es.toList.map fun x => pnum x.key) ?_ ?_
  · simpa using this
  · refine List.pairwise_map.2 ?_
    refine List.Pairwise.imp_of_mem ?_ ((stamped_iff es c).1 E.stamped).2.2
    intro x y hx hy hne
    obtain ⟨k, e1, _, l1⟩ := key x hx
    obtain ⟨k', e1', _, l2⟩ := key y hy
    rw [e1, e1', pnum_mk, pnum_mk]
    intro q
    apply hne
    rw [e1, e1']
    have : k = k' := by
      apply Prod.ext <;> omega
    rw [this]
  · intro z hz
    obtain ⟨x, hx, rfl⟩ := List.mem_map.1 hz
    obtain ⟨k, e1, h1, h2⟩ := key x hx
    rw [e1, pnum_mk]
    omega
theorem Rng.cnt_le {α : Type} {mk : α → Value} {f : α → Option Value} {w : World} {b r n : Nat} {left : α → Prop} {cnt : Nat} (h : Rng w b r mk f n left cnt) : cnt ≤ n := by
  obtain ⟨es, clock, since, seen, c0, hb, _, hs, hr, _, hc, _⟩ := h
  rw [← hc]
  refine Nat.le_trans ?_ hs
  unfold leftOf
  exact Array.size_filter_le
def nz (l : List Nat) : List Int := l.map fun (k : Nat) => (k : Int)
/-- The keys' range, with the homes that it has met. -/
structure HmAt (w0 wr : World) (lb r m : Nat) (T : List (List Nat)) (left : Nat × Nat → Prop) (cnt : Nat) (v : Value) (zs : List Int) : Prop where
  rng : Rng wr lb r mkP (lv T) m left cnt
  own : wr.ownsRow w0.heap.size 3 1 v zs.length (zs.map (Value.int .i64))
  mem : ∀ z, z ∈ zs ↔ ∃ s k : Nat, z = k ∧ k ∈ T.getD s [] ∧ ¬ left (s, k)
  bel : Below w0.heap.size w0 wr
  len : zs.length + cnt ≤ 262144
  ge : w0.heap.size ≤ r
  ne : v.ownBlock ≠ some r
theorem hm_end {w0 wr : World} {lb r m : Nat} {T : List (List Nat)} {left : Nat × Nat → Prop} {cnt : Nat} {v : Value} {zs : List Int} {n : Nat} (h : HmAt w0 wr lb r m T left cnt v zs) (hT : GoodT n T) (hn : n ≤ 65536) (hno : ∀ a, ¬ left a) :
    Calls Tryd.prog 67 #[v] wr fun e w' => e = .returned (.tuple #[]) ∧ Calls Tryd.prog 87 #[v] w' fun e w2 => ∃ a cap hs, e = .returned (.slice a hs.length cap) ∧ (∀ k, k ∈ hs ↔ ∃ s, k ∈ T.getD s []) ∧ hs.Pairwise (· < ·) ∧ RowI w2 a (nz hs) ∧ Below w0.heap.size w0 w2 := by
  have hmem : ∀ z, z ∈ zs ↔ ∃ k : Nat, z = k ∧ ∃ s, k ∈ T.getD s [] := fun z => by
    rw [h.mem z]
    exact ⟨fun ⟨s, k, e, hk, _⟩ => ⟨k, e, s, hk⟩, fun ⟨k, e, s, hk⟩ => ⟨s, k, e, hk, hno _⟩⟩
  rcases h.own.2 with ⟨rfl, h0⟩ | ⟨g, cap, cur, rfl, hB, hg, hle, hm, hcs, ht⟩
  · obtain rfl : zs = [] := List.eq_nil_of_length_eq_zero h0
    refine (AnyM.slices_Sort_int_none sortA none 0 wr).mono ?_
    rintro e w' ⟨rfl, rfl⟩
    refine ⟨rfl, (Any.slices_Compact_int_empty compI none 0 _).mono ?_⟩
    rintro e w' ⟨rfl, rfl⟩
    refine ⟨none, 0, [], rfl, fun k => ?_, List.Pairwise.nil, RowI.nil _ _, h.bel⟩
    have := hmem (k : Int)
    constructor
    · intro q; cases q
    · intro q
      exact absurd (this.2 ⟨k, rfl, q⟩) (by simp)
  · have hlen := h.len
    have hgl : g < wr.heap.size := (Array.getElem?_eq_some_iff.1 hg).1
    have hH : Holds (Value.int .i64) wr g 0 zs.toArray := holds_of_blockI hg (by rw [Nat.mul_one] at ht; exact ht)
    refine (AnyM.slices_Sort_int sortA g 0 cap zs wr hH hgl (by omega)).mono ?_
    rintro e w' ⟨rfl, n1, os, rfl⟩
    refine ⟨rfl, ?_⟩
    have hsl : (zs.mergeSort fun x y => decide (x ≤ y)).length = zs.length := List.length_mergeSort _
    have hasc := compact_asc (zs.mergeSort fun x y => decide (x ≤ y)).toArray sorted_le zs.length (by simp)
    have hcm := compact_mem (zs.mergeSort fun x y => decide (x ≤ y)).toArray zs.length
    have hin : ∀ x, (∃ j, j < zs.length ∧ (zs.mergeSort fun x y => decide (x ≤ y)).toArray[j]! = x) ↔ x ∈ zs := fun x => by
      rw [← (List.mergeSort_perm zs (fun x y => decide (x ≤ y))).mem_iff]
      rw [← hsl]
      generalize (zs.mergeSort fun x y => decide (x ≤ y)) = l at *
      constructor
      · rintro ⟨j, hj, rfl⟩
        simp [hj]
      · intro hx
        obtain ⟨j, hj, rfl⟩ := List.getElem_of_mem hx
        exact ⟨j, hj, by simp [hj]⟩
    have hown := ownsRow_sortedI (n := n1) (os := os) (e := 3) (base := w0.heap.size) (ts := zs.mergeSort fun x y => decide (x ≤ y)) hsl hB hg hle hm hcs
    have hb2 := heap_sortedI (n := n1) (os := os) (zs.mergeSort fun x y => decide (x ≤ y)).toArray hg
    have hgr := grownBy_sortedI (w := wr) (g := g) (n := n1) (os := os) (zs.mergeSort fun x y => decide (x ≤ y)).toArray
    generalize hY : zs.mergeSort (fun x y => decide (x ≤ y)) = ys at *
    generalize grow (putRow (Value.int .i64) (Sort.ahead wr n1) g 0 ys.toArray) os = W at *
    have hb3 : Below w0.heap.size w0 W := h.bel.grown hgr h.bel.size (fun k hk => by cases hk; exact hB)
    rcases hown.2 with ⟨q, _⟩ | ⟨g', cap', cur', q, _, hg', hle', hm', hcs', ht'⟩
    · cases q
    injection q with q1 q2 q3
    injection q1 with q1
    injection q1 with q1
    subst q1; subst q3
    have hH2 : Holds (Value.int .i64) W g 0 ys.toArray := holds_of_blockI hg' (by rw [hsl, Nat.mul_one] at *; exact ht')
    have hC := Any.slices_Compact_int compI g 0 cap ys W hH2 (by omega) (by omega)
    rw [hsl] at hC
    refine hC.mono ?_
    rintro e w2 ⟨rfl, q, rfl⟩
    have hcl : Lib.compact ys = Lib.compactUpTo ys.toArray zs.length := by unfold Lib.compact; rw [hsl]
    rw [hcl]
    have hnat : ∀ x ∈ Lib.compactUpTo ys.toArray zs.length, ∃ k : Nat, x = k ∧ k < 65536 ∧ ∃ s, k ∈ T.getD s [] := fun x hx => by
      obtain ⟨k, e, s, hk⟩ := (hmem x).1 ((hin x).1 ((hcm x).1 hx))
      have := (hT.home s k hk).2
      exact ⟨k, e, by omega, s, hk⟩
    have hle3 : (Lib.compactUpTo ys.toArray zs.length).length ≤ zs.length := by
      unfold Lib.compactUpTo
      rw [List.length_map]
      have := List.length_filter_le (Lib.keeps ys.toArray) (List.range zs.length)
      simpa using this
    have hcov : ∀ x, x ∈ Lib.compactUpTo ys.toArray zs.length ↔ ∃ k : Nat, x = k ∧ ∃ s, k ∈ T.getD s [] := fun x => by rw [hcm x, hin x, hmem x]
    generalize Lib.compactUpTo ys.toArray zs.length = cs at *
    have hcast : nz (cs.map Int.toNat) = cs := by
      unfold nz
      rw [List.map_map]
      conv => rhs; rw [← List.map_id cs]
      apply List.map_congr_left
      intro x hx
      obtain ⟨k, rfl, _⟩ := hnat x hx
      simp
    refine ⟨some ⟨g, 0, none⟩, cap, cs.map Int.toNat, by rw [List.length_map], fun k => ?_, ?_, ?_, ?_⟩
    · rw [List.mem_map]
      constructor
      · rintro ⟨x, hx, rfl⟩
        obtain ⟨k, rfl, _, q⟩ := hnat x hx
        simpa using q
      · intro q
        exact ⟨(k : Int), (hcov _).2 ⟨k, rfl, q⟩, by simp⟩
    · rw [List.pairwise_map]
      refine hasc.imp_of_mem ?_
      intro a b ha hb hab
      obtain ⟨k, rfl, _⟩ := hnat a ha
      obtain ⟨k', rfl, _⟩ := hnat b hb
      simp; omega
    · rw [hcast]
      intro i hi
      refine ⟨g, 0, rfl, ?_, ?_⟩
      · have hz := cell?_putRow (Value.int .i64) (Sort.ahead W q) g 0 ys.toArray (cs ++ List.replicate (zs.length - cs.length) 0).toArray (holds_ahead _ _ _ _ _ _ hH2) (by simp; omega) i (by simp; omega)
        rw [hz]
        have : (cs ++ List.replicate (zs.length - cs.length) 0).toArray[i]! = cs.getD i 0 := by simp [List.getD, hi, List.getElem?_append]
        rw [this]
      · obtain ⟨k, e, hk, _⟩ := hnat (cs.getD i 0) (by simp [List.getD, hi])
        rw [e]; omega
    · have hgr2 : W.grownBy (putRow (Value.int .i64) (Sort.ahead W q) g 0 (cs ++ List.replicate (zs.length - cs.length) 0).toArray) (some g) := by
        have := grownBy_sortedI (w := W) (g := g) (n := q) (os := #[]) (cs ++ List.replicate (zs.length - cs.length) 0).toArray
        simpa using this
      exact hb3.grown hgr2 hb3.size (fun k hk => by cases hk; exact hB)
end Go.Proofs.YtohncckmennfbaaDoor
