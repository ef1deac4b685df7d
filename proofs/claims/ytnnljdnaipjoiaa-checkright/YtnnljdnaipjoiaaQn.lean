/- The document's partition: Read of a partition. -/
import Derived.Test.YtnnljdnaipjoiaaQm
namespace Go.Proofs.Ytnnljdnaipjoiaa
set_option linter.unusedSimpArgs false
set_option linter.unusedVariables false
open Go.RowKit
theorem mem_flat {L : List Sg} {b : Bs} : b ∈ flatB L ↔ ∃ i, i < L.length ∧ b ∈ (L.getD i sgz).ss := by
  unfold flatB
  simp only [List.mem_flatten, List.mem_map]
  constructor
  · rintro ⟨l, ⟨s, hs, rfl⟩, hb⟩
    obtain ⟨i, hi, rfl⟩ := List.getElem_of_mem hs
    exact ⟨i, hi, by rw [getD_lt hi]; exact hb⟩
  · rintro ⟨i, hi, hb⟩
    exact ⟨_, ⟨L[i], List.getElem_mem hi, rfl⟩, by rw [getD_lt hi] at hb; exact hb⟩
theorem bget_mem {l : List Bs} {i : Nat} (h : i < l.length) : l.getD i bsz ∈ l := by
  simp only [List.getD, List.getElem?_eq_getElem h, Option.getD_some]
  exact List.getElem_mem h
theorem bget_eq {l : List Bs} {i : Nat} (h : i < l.length) : l.getD i bsz = l[i] := by
  simp only [List.getD, List.getElem?_eq_getElem h, Option.getD_some]
theorem PIs.bats {B p : Nat} {seg : Int} {r off cap : Nat} {L : List Sg} {y : World} (h : PIs B p seg r off cap L y) : ∀ b ∈ flatB L, BatIs y b := by
  intro b hb
  obtain ⟨i, hi, hm⟩ := mem_flat.1 hb
  obtain ⟨k, hk, rfl⟩ := List.getElem_of_mem hm
  have := (h.seg i hi).bat k hk
  rwa [bget_eq hk] at this
theorem last_mem {L : List Sg} (h : 0 < L.length) {i : Nat} (hi : i < (lastS L).ss.length) : (lastS L).ss.getD i bsz ∈ flatB L := mem_flat.2 ⟨L.length - 1, by omega, bget_mem hi⟩
theorem PIs.flat_len {B p : Nat} {seg : Int} {r off cap : Nat} {L : List Sg} {y : World} (h : PIs B p seg r off cap L y) : (flatB L).length ≤ 10000 := by
  have h1 := flatB_len L (fun i hi => (h.seg i hi).len) L.length (Nat.le_refl _)
  rw [List.take_length] at h1
  have := h.len
  omega
/-- What Read tells. -/
def ReadE (L : List Sg) (offset : Int) (y : World) (e : Ending) (z : World) : Prop := ∃ a acc c, e = .returned (.tuple #[.slice a acc.length c, .int .i64 0]) ∧ BCells z a acc ∧ List.Sublist acc (flatB L) ∧ (∀ b ∈ acc, offset < b.b.base + b.b.span) ∧ Below y.heap.size y z
set_option maxRecDepth 100000 in
theorem read_any {B p : Nat} {seg : Int} {r off cap : Nat} {L : List Sg} {y : World} (h : PIs B p seg r off cap L y) (ht : ∀ b ∈ flatB L, Tame b.b) (offset : Int) (h1 : (L.getD 0 sgz).base ≤ offset) (h2 : offset ≤ nextS (lastS L)) :
    Calls Try.prog 21 #[.pointer (some ⟨p, 0, none⟩), .int .i64 offset, .int .i64 400] y fun e z => ReadE L offset y e z := by
  have HS : Hid (∀ z, Below y.heap.size y z → Calls Try.prog 19 #[.pointer (some ⟨p, 0, none⟩)] z fun e w => e = .returned (.int .i64 (L.getD 0 sgz).base) ∧ w = z) := fun z hb => start_any (h.below hb)
  have HN : Hid (∀ z, Below y.heap.size y z → Calls Try.prog 20 #[.pointer (some ⟨p, 0, none⟩)] z fun e w => e = .returned (.int .i64 (nextS (lastS L))) ∧ Below z.heap.size z w) := fun z hb => next_any (h.below hb) (fun i hi => ht _ (last_mem h.pos hi))
  have HA : Hid (∀ z, Below y.heap.size y z → Calls Try.prog 37 #[.pointer (some ⟨p, 0, none⟩)] z fun e w => AllE L z e w) := fun z hb => all_any (h.below hb)
  have HR : Hid (∀ z a c, Below y.heap.size y z → BCells z a (flatB L) → Calls Try.prog 42 #[.slice a (flatB L).length c, .int .i64 offset, .int .i64 400] z fun e w => RdE (flatB L) offset z e w) := fun z a c hb hc => readL_any a c (flatB L) offset 400 z hc (fun i hi => ⟨(h.bats _ (bget_mem hi)).below hb, ht _ (bget_mem hi)⟩) h.flat_len
  have HB0 : Hid (Below y.heap.size y y) := Below.refl _ _
  have n1 : ¬ offset < (L.getD 0 sgz).base := by omega
  have n2 : ¬ nextS (lastS L) < offset := by omega
  generalize (L.getD 0 sgz).base = st at *
  generalize nextS (lastS L) = nx at *
  clear h ht h1 h2
  go_enter Try.func21, Try.ntmps21
  go_wp2_with (first
    | (go_at_call 19; refine (HS.out _ HB0.out).mono ?_; rintro e w1 ⟨rfl, hw⟩; subst hw)
    | (go_at_call 20; refine (HN.out _ HB0.out).mono ?_; rintro e w2 ⟨rfl, hb2⟩)
    | (go_at_call 37; refine (HA.out _ hb2).mono ?_; rintro e w3 ⟨a3, c3, rfl, hc3, hn3, hb3⟩; have hb3' := hb2.trans (hb3.mono hb2.size))
    | (go_at_call 42; refine (HR.out _ _ _ hb3' hc3).mono ?_; rintro e w4 ⟨a4, acc, c4, rfl, hc4, hs4, ha4, hb4⟩))
  go_ret2
  exact ⟨a4, acc, c4, rfl, hc4, hs4, ha4, hb3'.trans (hb4.mono hb3'.size)⟩
end Go.Proofs.Ytnnljdnaipjoiaa
