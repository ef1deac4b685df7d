/- slices.Sorted(maps.Keys(m)) of what a transaction wrote. -/
import Derived.Test.YtpjeidihcjljnaaGreatDoorSrt
namespace Go.Proofs.YtpjeidihcjljnaaGreatDoor
set_option linter.unusedSimpArgs false
set_option linter.unusedVariables false
open Go.RowKit Go.MapKept Go.Maps Go.Sort Go.Shelf
open Go.WideElems (Fit rd rg rg_of)
theorem keysC_any (mb : Option Nat) (W : World) : Calls Tryz.prog 64 #[.map mb] W fun e w' => e = .returned (.func (.func 83) #[] #[.pointer (some ⟨W.heap.size, 0, none⟩)]) ∧ w' = W.alloc (.cells #[.map mb] 52) :=
  (callsIn_wide (n := 5)).1 (AnyZI.keys_in keysB Fence.wide 5 trivial rfl mb W)
theorem sortedC_any (b n : Nat) (T : Nat → Option Value) (w : World) (h : MapIs w b mkI T n) (hn : n ≤ 1099511627776) (hk : ∀ k v, T k = some v → k < 4611686018427387904) :
    Calls Tryz.prog 63 #[.func (.func 83) #[] #[.pointer (some ⟨w.heap.size, 0, none⟩)]] (w.alloc (.cells #[.map (some b)] 52)) fun e w' => ∃ (v : Value) (ks : List Nat), e = .returned v ∧
      (∀ k, k ∈ ks ↔ ∃ u, T k = some u) ∧ ks.Pairwise (· < ·) ∧ w'.ownsRow w.heap.size 3 1 v ks.length (ks.map mkI) ∧ ks.length ≤ n ∧ Below w.heap.size w w' := by
  have hbl := h.lt
  obtain ⟨es, clock, hb, E, hs⟩ := h
  have key : ∀ x ∈ es.toList, ∃ k : Nat, x.key = mkI k ∧ (∃ u, T k = some u) ∧ rd Tryz.prog 3 rdAny x = some (.int .i64 (k : Int), .lit (.bool true)) := fun x hx => by
    obtain ⟨k, e1, e2⟩ := E.keys x hx
    refine ⟨k, e1, ⟨_, e2⟩, ?_⟩
    unfold Go.WideElems.rd
    rw [e1, keyOf_int_mk Tryz.underlying3 (wf_nat (hk k _ e2))]
    rfl
  have F : Fit Tryz.prog 3 rdAny es clock := ⟨by unfold maxLen; omega, E.stamped, fun x hx => by obtain ⟨k, _, _, e⟩ := key x hx; exact ⟨_, e⟩⟩
  have hD : Maps.size (DataW.map ((es.toList.map (rg Tryz.prog 3 rdAny)).foldr DataW.insert [])) = es.size := by
    simp [Maps.size, length_sorted]
  have hown : (w.alloc (.cells #[.map (some b)] 52)).ownsMap Tryz.prog 3 rdAny b n (DataW.map ((es.toList.map (rg Tryz.prog 3 rdAny)).foldr DataW.insert [])) :=
    ⟨es, clock, (Below.heap_alloc _ _ b hbl).trans hb, F, hs, rfl⟩
  have hseq : SeqGives Fence.wide 2 Tryz.prog 83 #[.pointer (some ⟨w.heap.size, 0, none⟩)] encZ (fun ss => ss.Perm (intKeys (DataW.map ((es.toList.map (rg Tryz.prog 3 rdAny)).foldr DataW.insert [])))) es.size (w.alloc (.cells #[.map (some b)] 52)) := by
    have := AnyZI.keys_gives (ρ := keysB_ren) { keysB with } Fence.wide 2 trivial rfl (by omega) w.heap.size b n _ _ (by simp) (by simp) hown
    rw [hD] at this
    exact this
  have cS := AnyZI.sorted_in sortedA Fence.wide 5 trivial trivial trivial trivial rfl (by omega) (sorts _) (enters_of Tryz.func82 (by kernel_rfl) rfl) 83 #[.pointer (some ⟨w.heap.size, 0, none⟩)] trivial (enters_of Tryz.func83 (by kernel_rfl) rfl) _ es.size (by unfold maxLen; omega) (by omega) _ hseq
  have cS2 : Calls Tryz.prog 63 _ _ _ := (callsIn_wide (n := 5)).1 cS
  refine cS2.mono ?_
  rintro e w' ⟨v, ss, rfl, hS, hrow, hnil, hbw⟩
  have hmem : ∀ z : Int, z ∈ ss ↔ ∃ k : Nat, z = k ∧ ∃ u, T k = some u := by
    intro z
    rw [hS.mem_iff]
    show z ∈ List.map _ _ ↔ _
    rw [List.mem_map]
    constructor
    · rintro ⟨p, hp, rfl⟩
      obtain ⟨x, hx, rfl⟩ := List.mem_map.1 (mem_sorted.1 hp)
      obtain ⟨k, e1, e2, e3⟩ := key x hx
      exact ⟨k, by rw [rg_of e3]; rfl, e2⟩
    · rintro ⟨k, rfl, u, hu⟩
      obtain ⟨x, hx, e1, e2⟩ := E.all k u hu
      obtain ⟨k', e1', _, e3⟩ := key x hx
      have : k' = k := by rw [e1] at e1'; exact (kbI.inj e1').symm
      subst this
      exact ⟨rg Tryz.prog 3 rdAny x, mem_sorted.2 (List.mem_map.2 ⟨x, hx, rfl⟩), by rw [rg_of e3]; rfl⟩
  have hnd : ss.Nodup := by
    refine hS.symm.nodup ?_
    show (List.map _ _).Nodup
    refine (((WideShapes.sorted_perm (es.toList.map (rg Tryz.prog 3 rdAny))).map _).symm).nodup ?_
    rw [List.map_map]
    refine List.pairwise_map.2 ?_
    refine List.Pairwise.imp_of_mem ?_ ((stamped_iff es clock).1 E.stamped).2.2
    intro x y hx hy hne
    obtain ⟨k, e1, _, e3⟩ := key x hx
    obtain ⟨k', e1', _, e3'⟩ := key y hy
    simp only [Function.comp, rg_of e3, rg_of e3']
    intro c
    apply hne
    rw [e1, e1']
    have : (k : Int) = (k' : Int) := c
    rw [mkI, mkI, this]
  generalize hq : ss.mergeSort (fun x y => decide (x ≤ y)) = qs at hrow
  have hp : qs.Perm ss := by rw [← hq]; exact List.mergeSort_perm _ _
  have hsorted : qs.Pairwise (fun a b => a ≤ b) := by
    rw [← hq]
    have := List.pairwise_mergeSort (le := fun x y : Int => decide (x ≤ y)) (fun a b c h1 h2 => by simp only [decide_eq_true_eq] at *; omega) (fun a b => by simp only [Bool.or_eq_true, decide_eq_true_eq]; omega) ss
    exact this.imp (fun h => by simpa using h)
  have hqnd : qs.Nodup := hp.symm.nodup hnd
  have hqm : ∀ z : Int, z ∈ qs ↔ ∃ k : Nat, z = k ∧ ∃ u, T k = some u := fun z => (hp.mem_iff).trans (hmem z)
  have hqk : qs = (qs.map Int.toNat).map (fun k : Nat => (k : Int)) := by
    rw [List.map_map]
    refine (List.map_id qs).symm.trans (List.map_congr_left fun z hz => ?_)
    obtain ⟨k, rfl, _⟩ := (hqm z).1 hz
    simp
  refine ⟨v, qs.map Int.toNat, rfl, ?_, ?_, ?_, ?_, ?_⟩
  · intro k
    rw [List.mem_map]
    constructor
    · rintro ⟨z, hz, rfl⟩
      obtain ⟨k', rfl, hu⟩ := (hqm z).1 hz
      simpa using hu
    · intro hu
      exact ⟨(k : Int), (hqm k).2 ⟨k, rfl, hu⟩, by simp⟩
  · refine List.pairwise_map.2 ?_
    refine List.Pairwise.imp_of_mem ?_ (hsorted.and hqnd)
    intro x y hx hy hxy
    obtain ⟨a, rfl, _⟩ := (hqm x).1 hx
    obtain ⟨c, rfl, _⟩ := (hqm y).1 hy
    simp
    omega
  · have hl : (qs.map Int.toNat).length = ss.length := by rw [List.length_map]; exact hp.length_eq
    rw [hl]
    have e2 : (qs.map Int.toNat).map mkI = qs.map encZ := by
      conv => rhs; rw [hqk]
      rw [List.map_map, List.map_map, List.map_map]
      rfl
    rw [e2]
    exact ownsRow_base_a hrow (by simp)
  · rw [List.length_map, hp.length_eq, hS.length_eq]
    show (List.map _ _).length ≤ n
    rw [List.length_map, length_sorted, List.length_map]
    simpa using hs
  · exact ((Below.refl _ w).alloc (Nat.le_refl _) _).trans (hbw.mono (by simp))
end Go.Proofs.YtpjeidihcjljnaaGreatDoor
