/- The document's partition: Read. -/
import Derived.Test.YtnnljdnaipjoiaaQl
namespace Go.Proofs.Ytnnljdnaipjoiaa
set_option linter.unusedSimpArgs false
set_option linter.unusedVariables false
open Go.RowKit
theorem BatIs.row {y : World} {b : Bs} (h : BatIs y b) : RRow y b.a b.b.rs ∧ (b.a = none → b.cap = 0) := by
  obtain ⟨a, c, e, hr, hn, _⟩ := owns_rrow h.own
  simp only [Value.slice.injEq, true_and] at e
  obtain ⟨e1, e2⟩ := e
  rw [e1, e2]
  exact ⟨hr, hn⟩
/-- What Read leaves out of the batches: some of them, in their order, that end behind the offset. -/
def RdE (ss : List Bs) (offset : Int) (y : World) (e : Ending) (z : World) : Prop := ∃ a acc c, e = .returned (.slice a acc.length c) ∧ BCells z a acc ∧ List.Sublist acc ss ∧ (∀ b ∈ acc, offset < b.b.base + b.b.span) ∧ Below y.heap.size y z
theorem take_sub {acc : List Bs} {ss : List Bs} {k : Nat} (h : List.Sublist acc (ss.take k)) : List.Sublist acc (ss.take (k + 1)) :=
  h.trans (List.take_sublist_take_left (by omega))
theorem snoc_sub {acc : List Bs} {ss : List Bs} {k : Nat} (h : List.Sublist acc (ss.take k)) (hk : k < ss.length) : List.Sublist (acc ++ [ss.getD k bsz]) (ss.take (k + 1)) := by
  rw [List.take_succ_eq_append_getElem hk]
  simp only [List.getD, List.getElem?_eq_getElem hk, Option.getD_some]
  exact h.append (List.Sublist.refl _)
set_option maxHeartbeats 4000000 in
set_option maxRecDepth 100000 in
theorem readL_any (a : Option Addr) (c : Nat) (ss : List Bs) (offset max : Int) (y : World) (hr : BCells y a ss) (hb : ∀ i, i < ss.length → BatIs y (ss.getD i bsz) ∧ Tame (ss.getD i bsz).b) (hl : ss.length ≤ 10000) :
    Calls Try.prog 42 #[.slice a ss.length c, .int .i64 offset, .int .i64 max] y fun e z => RdE ss offset y e z := by
  have HR : Hid (∀ z, Below y.heap.size y z → BCells z a ss) := fun z hz => hr.below hz
  have HB : Hid (∀ z i, Below y.heap.size y z → i < ss.length → BatIs z (ss.getD i bsz) ∧ Tame (ss.getD i bsz).b) := fun z i hz hi => ⟨(hb i hi).1.below hz, (hb i hi).2⟩
  have HT : Hid (ss.take ss.length = ss) := by show _ = _; rw [List.take_length]
  clear hr hb
  go_enter Try.func42, Try.ntmps42
  go_wp2_with fail
  go_loopw [7, 8, 9] (fun v n i wr => ∃ (k : Nat) (acc : List Bs) (m : Int), k ≤ ss.length ∧ i = .int .i64 k ∧ n = .int .i64 m ∧ wr.ownsRow y.heap.size 61 5 v acc.length (bcv acc) ∧ List.Sublist acc (ss.take k) ∧ (∀ b ∈ acc, offset < b.b.base + b.b.span) ∧ Below y.heap.size y wr) (fun _ _ i _ => ss.length - (intOf i).toNat)
  case atStart => exact ⟨0, [], 0, by omega, rfl, rfl, World.ownsRow_nil _ _ _ _, by simp, fun b hb => by simp at hb, Below.refl _ _⟩
  case round =>
    obtain ⟨k, acc, m, hk, rfl, rfl, hown, hsub, hacc, hb⟩ := hrel
    obtain ⟨ao, co, rfl, _⟩ := owns_bslice hown
    by_cases hlt : k < ss.length
    · have hltI : (k : Int) < (ss.length : Int) := by omega
      have hal : acc.length ≤ 10000 := Nat.le_trans (hsub.length_le) (by rw [List.length_take]; omega)
      have HSUB : Hid (List.Sublist acc (ss.take (k + 1)) ∧ List.Sublist (acc ++ [ss.getD k bsz]) (ss.take (k + 1))) := ⟨take_sub hsub, snoc_sub hsub hlt⟩
      have HACC : Hid (∀ b ∈ acc, offset < b.b.base + b.b.span) := hacc
      have HCK : Hid (∀ z, Below y.heap.size y z → ∃ g off, a = some ⟨g, off, none⟩ ∧ z.cell? ⟨g, off + k * 5, none⟩ = some (.int .i64 (ss.getD k bsz).b.base) ∧ z.cell? ⟨g, off + k * 5 + 1, none⟩ = some (.int .i64 (ss.getD k bsz).b.span) ∧ z.cell? ⟨g, off + k * 5 + 2, none⟩ = some (.int .i64 (ss.getD k bsz).b.prod) ∧ z.cell? ⟨g, off + k * 5 + 3, none⟩ = some (.int .i64 (ss.getD k bsz).b.seq) ∧ z.cell? ⟨g, off + k * 5 + 4, none⟩ = some (.slice (ss.getD k bsz).a (ss.getD k bsz).b.rs.length (ss.getD k bsz).cap)) := fun z hz => HR.out z hz k hlt
      have HSZ : Hid (∀ z, Below y.heap.size y z → Calls Try.prog 40 #[.agg (ss.getD k bsz).cells] z fun e w' => (∃ n : Int, e = .returned (.int .i64 n)) ∧ Below z.heap.size z w') := fun z hz => by
        obtain ⟨q1, _⟩ := HB.out z k hz hlt
        exact size_l _ _ _ _ _ _ _ z q1.row.1 q1.len
      obtain ⟨t0, t1, t2, t3⟩ := (HB.out wr k hb hlt).2
      have HBR : Hid (∀ z : World, BCells (z.alloc (.cells (ss.getD k bsz).cells 61)) (some ⟨z.heap.size, 0, none⟩) [ss.getD k bsz]) := fun z => brow_new z _
      have HIN : Hid (ss.getD k bsz ∈ ss ∨ True) := .inr trivial
      have HAC2 : Hid (¬ (ss.getD k bsz).b.base + (ss.getD k bsz).b.span ≤ offset → ∀ b ∈ acc ++ [ss.getD k bsz], offset < b.b.base + b.b.span) := fun hq b hb => by
        rcases List.mem_append.1 hb with q | q
        · exact hacc b q
        · rw [List.mem_singleton.1 q]
          omega
      clear hsub hacc HR HB HIN
      generalize ss.getD k bsz = b at *
      obtain ⟨⟨bb, bs, bp, bq, brs⟩, ba, bc⟩ := b
      simp only [Bs.cells, bcells] at HCK HSZ t0 t1 t2 t3 HBR HAC2
      have hw2 : IntKind.i64.wrap (bb + bs) = bb + bs := by rw [IntKind.wrap_i64]; omega
      obtain ⟨g, off, rfl, c0, c1, c2, c3, c4⟩ := HCK.out wr hb
      have HC2 : Hid (∀ z, Below y.heap.size y z → z.cell? ⟨g, off + k * 5, none⟩ = some (.int .i64 bb) ∧ z.cell? ⟨g, off + k * 5 + 1, none⟩ = some (.int .i64 bs) ∧ z.cell? ⟨g, off + k * 5 + 2, none⟩ = some (.int .i64 bp) ∧ z.cell? ⟨g, off + k * 5 + 3, none⟩ = some (.int .i64 bq) ∧ z.cell? ⟨g, off + k * 5 + 4, none⟩ = some (.slice ba brs.length bc)) := fun z hz => by
        obtain ⟨g', off', e, q⟩ := HCK.out z hz
        injection e with e
        injection e with e1 e2
        subst e1; subst e2
        exact q
      clear HCK
      have hS0 : wr.drew.cell? ⟨g, off + k * 5, none⟩ = some (.int .i64 bb) ∧ wr.drew.cell? ⟨g, off + k * 5 + 1, none⟩ = some (.int .i64 bs) := ⟨c0, c1⟩
      clear c0 c1 c2 c3 c4
      go_wp2
      go_region_held3 (fun y : World => y.cell? ⟨g, off + k * 5, none⟩ = some (.int .i64 bb) ∧ y.cell? ⟨g, off + k * 5 + 1, none⟩ = some (.int .i64 bs)) (exact hS0) (fail)
      clear hS0
      have hb2 : Below y.heap.size y wr.drew := hb.drew
      have hown2 : wr.drew.ownsRow y.heap.size 61 5 (.slice ao acc.length co) acc.length (bcv acc) := hown
      by_cases hcut : bb + bs ≤ offset
      · go_wp2
        exact ⟨⟨k + 1, acc, m, by omega, by go_num, rfl, hown2, HSUB.out.1, HACC.out, hb2⟩, by simp [intOf]; omega⟩
      · obtain ⟨c0, c1, c2, c3, c4⟩ := HC2.out wr.drew hb2
        have HA2 := HAC2.out (by omega)
        go_wp2_with (first
          | (go_at_call 40; refine (HSZ.out _ hb2).mono ?_; rintro e w1 ⟨⟨n1, rfl⟩, hb1⟩; have hb1' := hb2.trans (hb1.mono hb2.size); have hown3 := own_keep hown2 hb1 (Nat.le_refl _); clear c0 c1 c2 c3 c4; obtain ⟨c0, c1, c2, c3, c4⟩ := HC2.out w1 hb1')
          | (at_builtin; refine wpList_app_bats (by rfl) _ _ rfl y.heap.size (.slice ao acc.length co) acc [⟨⟨bb, bs, bp, bq, brs⟩, ba, bc⟩] rfl (own_keep hown3 (below_box _) (Nat.le_refl _)) (by have := hb1'.size; simp; omega) _ _ _ rfl rfl (HBR.out w1) (fun e => by cases e) (by simp; omega) ?_; intro v' w' hown' hg' _))
        all_goals first
          | (go_ret
             obtain ⟨a2, c2', e, hc, hn⟩ := owns_bslice hown3
             simp only [Value.slice.injEq, true_and] at e
             obtain ⟨rfl, rfl⟩ := e
             exact ⟨ao, acc, co, rfl, hc, HSUB.out.1.trans (List.take_sublist _ _), HACC.out, hb1'⟩)
          | exact ⟨⟨k + 1, _, _, by omega, by go_num, rfl, hown', HSUB.out.2, HA2, own_bel' (hb1'.alloc hb1'.size _) (by have := hb1'.size; simp; omega) hg' (fun x hx => (hown3.lt x hx).1)⟩, by simp [intOf]; omega⟩
    · obtain rfl : k = ss.length := by omega
      go_wp2_with fail
      go_ret
      rw [HT.out] at hsub
      obtain ⟨a2, c2, e, hc, hn⟩ := owns_bslice hown
      simp only [Value.slice.injEq, true_and] at e
      obtain ⟨rfl, rfl⟩ := e
      exact ⟨ao, acc, co, rfl, hc, hsub, hacc, hb⟩
end Go.Proofs.Ytnnljdnaipjoiaa
