/- The document's partition in memory: what grows in it. -/
import Derived.Test.YtnnljdnaipjoiaaQh
import Derived.Laws.OwnMore
import Derived.Test.YtnnljdnaipjoiaaAk
namespace Go.Proofs.Ytnnljdnaipjoiaa
set_option linter.unusedSimpArgs false
set_option linter.unusedVariables false
open Go.RowKit
theorem Try.info94z : (Try.prog.info? 94).map (fun i => (i.zero, i.size)) = some (some (.pointer none), 1) := by kernel_rfl
theorem Try.info94b : (Try.prog.info? 94).map (fun i => i.bytes) = some 8 := by kernel_rfl
theorem PIs.B_le {B p : Nat} {seg : Int} {r off cap : Nat} {L : List Sg} {y : World} (h : PIs B p seg r off cap L y) : B ≤ y.heap.size :=
  Nat.le_trans h.hp (Nat.le_of_lt (Array.getElem?_eq_some_iff.1 h.box).1)
/-- The row of pointers, one more. -/
structure Push (B : Nat) (y : World) (L : List Sg) (g' : Nat) (r' off' cap' : Nat) (row : Option Nat) (z : World) : Prop where
  gr : y.grownBy z row
  ro : ∀ b, row = some b → B ≤ b ∧ HasT y b 94
  hr : B ≤ r'
  ptr : ∃ cur : Array Value, z.heap[r']? = some (.cells cur 94 (0, 0)) ∧ off' + cap' ≤ cur.size ∧ ∀ i, i < L.length + 1 → cur[off' + i]? = some (.pointer (some ⟨if i < L.length then (L.getD i sgz).g else g', 0, none⟩))
  cap1 : L.length + 1 ≤ cap'
  cap2 : cap' ≤ maxLen
theorem run_push {B p : Nat} {seg : Int} {r off cap : Nat} {L : List Sg} {y : World} (h : PIs B p seg r off cap L y) (ty : TypeId) (ad : Addr) (c g' : Nat) (hc : y.cell? ad = some (.pointer (some ⟨g', 0, none⟩))) :
    ∃ r' off' cap' row z, (Builtin.append_ #[97, 97] ty #[.slice (some ⟨r, off, none⟩) L.length cap, .slice (some ad) 1 c]).run Try.prog y = .ok (.slice (some ⟨r', off', none⟩) (L.length + 1) cap') z ∧ Push B y L g' r' off' cap' row z := by
  obtain ⟨i, hi, hz, hs, hb⟩ := info_get Try.info94z Try.info94b
  obtain ⟨cur, q1, q2, q3⟩ := h.ptr
  have hc1 := h.cap1
  have hc2 := h.cap2
  have hl := h.len
  have hnews : ∀ j u, [Value.pointer (some ⟨g', 0, none⟩)][j]? = some u → y.cell? (ad.add j) = some u := by
    intro j u hj
    match j, hj with
    | 0, hj =>
      simp at hj
      subst hj
      rw [show ad.add 0 = ad by cases ad; simp [Addr.add]]
      exact hc
  have h1 : ∀ u ∈ [Value.pointer (some ⟨g', 0, none⟩)], u.oneCell' = true := by
    intro u hu
    simp at hu
    subst hu
    rfl
  by_cases hroom : L.length + 1 ≤ cap
  · have hcell : y.cell? ⟨r, off + L.length, none⟩ = cur[off + L.length]? := cell_of_row _ _ _ _ _ _ q1
    have hin : off + L.length < cur.size := by omega
    have hr := run_append_room_cells (P := Try.prog) (w := y) 97 ty 94 i Try.underlying97 hi r off L.length cap ad 1 c [Value.pointer (some ⟨g', 0, none⟩)] (by simp [hs]) hnews h1 hroom
      (fun j hj => by
        obtain rfl : j = 0 := by simpa using hj
        rw [hs, Nat.mul_one, Nat.add_zero, hcell, Array.getElem?_eq_getElem hin]
        rfl)
      (fun j hj => frozen_cells q1)
    rw [hs, Nat.mul_one] at hr
    refine ⟨r, off, cap, some r, _, hr, ⟨grown_set y r (off + L.length) _, fun b e => by injection e with e; subst e; exact ⟨h.hr, _, q1⟩, h.hr, ⟨_, setCell_heap q1 _ _, by simpa using q2, fun k hk => ?_⟩, hroom, hc2⟩⟩
    by_cases e : k < L.length
    · rw [if_pos e, Array.getElem?_setIfInBounds_ne (by omega)]
      exact q3 k e
    · obtain rfl : k = L.length := by omega
      rw [if_neg e, Array.getElem?_setIfInBounds_self_of_lt hin]
  · obtain ⟨v', z, hr, h2, h3⟩ := run_append_arg_grows (P := Try.prog) (w := y) 97 ty 94 i _ 1 8 Try.underlying97 hi hz hs hb rfl (by decide) ⟨r, off, none⟩ L.length cap (L.map fun s => Value.pointer (some ⟨s.g, 0, none⟩)) (by simp)
      (fun j u hj => by
        have hjl : j < L.length := by
          have := (List.getElem?_eq_some_iff.1 hj).1
          simpa using this
        have hq := q3 j hjl
        rw [Addr.add_lit, cell_of_row _ _ _ _ _ _ q1, hq]
        rw [List.getElem?_map, List.getElem?_eq_getElem hjl] at hj
        rw [← hj, getD_lt hjl]
        rfl)
      ad 1 c [Value.pointer (some ⟨g', 0, none⟩)] (by simp) hnews (by omega) (by unfold maxLen; omega) (by omega)
    rcases h2.2 with ⟨_, e⟩ | ⟨g, cap', cur', rfl, hB', hg', hle, hm, hcs, htake⟩
    · omega
    · refine ⟨g, 0, cap', none, z, hr, ⟨h3, (fun b e => by cases e), Nat.le_trans h.B_le hB', ⟨cur', hg', by omega, fun k hk => ?_⟩, hle, hm⟩⟩
      rw [Nat.zero_add, ← Array.getElem?_toList]
      have ht := congrArg (fun l => l[k]?) htake
      simp only [Nat.mul_one] at ht
      rw [List.getElem?_take_of_lt hk] at ht
      rw [ht]
      by_cases e : k < L.length
      · rw [if_pos e, List.getElem?_append_left (by simpa using e), List.getElem?_map, List.getElem?_eq_getElem e, getD_lt e]
        rfl
      · obtain rfl : k = L.length := by omega
        rw [if_neg e, List.getElem?_append_right (by simp)]
        simp
theorem snoc_get (L : List Sg) (s : Sg) (i : Nat) (h : i < L.length + 1) : (L ++ [s]).getD i sgz = if i < L.length then L.getD i sgz else s := by
  by_cases e : i < L.length
  · rw [if_pos e]; simp [List.getD, List.getElem?_append, e]
  · obtain rfl : i = L.length := by omega
    rw [if_neg e]; simp [List.getD]
theorem last_snoc (L : List Sg) (s : Sg) : lastS (L ++ [s]) = s := by
  unfold lastS
  rw [List.length_append, List.length_singleton, snoc_get L s _ (by omega), if_neg (by omega)]
/-- A new last one. -/
theorem PIs.pushed {B p : Nat} {seg : Int} {r off cap : Nat} {L : List Sg} {y z : World} (h : PIs B p seg r off cap L y) {s : Sg} {r' off' cap' : Nat} {row : Option Nat} (k : Push B y L s.g r' off' cap' row z)
    (hs : SgIs B z s) (hn : s.v.ownBlock = none) (hd : ∀ i, i < L.length → (L.getD i sgz).g ≠ s.g) (hl : L.length < 100) :
    PIs B p seg r' off' cap' (L ++ [s]) (z.setCell ⟨p, 5, none⟩ (.slice (some ⟨r', off', none⟩) (L.length + 1) cap')) ∧ PKeep B y (z.setCell ⟨p, 5, none⟩ (.slice (some ⟨r', off', none⟩) (L.length + 1) cap')) := by
  have hbz : z.heap[p]? = some (.cells #[.int .i64 seg, .int .i64 2000, .int .i64 (-1), .bool true, .int .i64 3, .slice (some ⟨r, off, none⟩) L.length cap] 99 (0, 0)) :=
    blk_step h.box k.gr (fun e => absurd ((k.ro _ e).2.same ⟨_, h.box⟩) (by decide))
  have hg := grown_set z p 5 (.slice (some ⟨r', off', none⟩) (L.length + 1) cap')
  have hT : ∀ x, some p = some x → HasT z x 99 := fun x e => by injection e with e; subst e; exact ⟨_, hbz⟩
  obtain ⟨cur, q1, q2, q3⟩ := k.ptr
  have each : ∀ t : Sg, SgIs B z t → SgIs B (z.setCell ⟨p, 5, none⟩ (.slice (some ⟨r', off', none⟩) (L.length + 1) cap')) t := fun t ht => ht.grown hg hT (by decide)
    (fun e => absurd ((hT _ e).same ⟨_, ht.box⟩) (by decide)) (fun x e e2 => absurd ((hT _ e).same (own_hasT ht.own x e2)) (by decide))
  have old : ∀ t : Sg, SgIs B y t → SgIs B z t := fun t ht => ht.grown k.gr (fun x e => (k.ro x e).2) (by decide)
    (fun e => absurd ((k.ro _ e).2.same ⟨_, ht.box⟩) (by decide)) (fun x e e2 => absurd ((k.ro x e).2.same (own_hasT ht.own x e2)) (by decide))
  have hlen : (L ++ [s]).length = L.length + 1 := by simp
  refine ⟨⟨h.hp, ?_, k.hr, ⟨cur, blk_step q1 hg (fun e => absurd ((hT _ e).same ⟨_, q1⟩) (by decide)), q2, fun i hi => ?_⟩, by rw [hlen]; exact k.cap1, k.cap2, by rw [hlen]; omega, by rw [hlen]; omega, fun i hi => ?_, fun i hi => ?_⟩,
    ((PKeep.refl B y).step k.gr k.ro (.inr (.inl rfl))).step hg (fun b e => ⟨by injection e with e; subst e; exact h.hp, hT b e⟩) (.inl rfl)⟩
  · rw [setCell_heap hbz, hlen]
    rfl
  · rw [hlen] at hi
    rw [q3 i hi, snoc_get L s i hi]
    by_cases e : i < L.length
    · rw [if_pos e, if_pos e]
    · rw [if_neg e, if_neg e]
  · rw [hlen] at hi
    rw [snoc_get L s i hi]
    by_cases e : i < L.length
    · rw [if_pos e]; exact each _ (old _ (h.seg i e))
    · rw [if_neg e]; exact each s hs
  · rw [hlen] at hi
    have e : i < L.length := by omega
    rw [last_snoc, snoc_get L s i (by omega), if_pos e]
    exact ⟨hd i e, fun x hx => by rw [hn] at hx; cases hx⟩
/-- The last one, with one batch more. -/
theorem PIs.grow {B p : Nat} {seg : Int} {r off cap : Nat} {L : List Sg} {y z : World} (h : PIs B p seg r off cap L y) {b : Bs} {a' : Option Addr} {c' : Nat}
    (hg : y.grownBy z (lastS L).v.ownBlock) (ho : z.ownsRow B 61 5 (.slice a' ((lastS L).ss.length + 1) c') ((lastS L).ss.length + 1) (bcv ((lastS L).ss ++ [b])))
    (hw : (Value.slice a' ((lastS L).ss.length + 1) c').ownBlock = (lastS L).v.ownBlock ∨ (Value.slice a' ((lastS L).ss.length + 1) c').ownBlock = some y.heap.size) (hb : BatIs y b) (hl : (lastS L).ss.length < 100) :
    PIs B p seg r off cap (L.set (L.length - 1) ⟨(lastS L).g, (lastS L).base, a', c', (lastS L).ss ++ [b]⟩) (z.setCell ⟨(lastS L).g, 1, none⟩ (.slice a' ((lastS L).ss.length + 1) c')) ∧ PKeep B y (z.setCell ⟨(lastS L).g, 1, none⟩ (.slice a' ((lastS L).ss.length + 1) c')) := by
  have hpos := h.pos
  have hla : SgIs B y (lastS L) := h.seg (L.length - 1) (by omega)
  have hR : ∀ x, (lastS L).v.ownBlock = some x → HasT y x 61 := own_hasT hla.own
  have hRB : ∀ x, (lastS L).v.ownBlock = some x → B ≤ x := fun x hx => (hla.own.lt x hx).1
  have hlz : z.heap[(lastS L).g]? = some (.cells #[.int .i64 (lastS L).base, (lastS L).v] 96 (0, 0)) := blk_step hla.box hg (fun e => absurd ((hR _ e).same ⟨_, hla.box⟩) (by decide))
  have hg2 := grown_set z (lastS L).g 1 (.slice a' ((lastS L).ss.length + 1) c')
  have hT : ∀ x, some (lastS L).g = some x → HasT z x 96 := fun x e => by injection e with e; subst e; exact ⟨_, hlz⟩
  obtain ⟨cur, q1, q2, q3⟩ := h.ptr
  have q1z : z.heap[r]? = some (.cells cur 94 (0, 0)) := blk_step q1 hg (fun e => absurd ((hR _ e).same ⟨_, q1⟩) (by decide))
  have bxz : z.heap[p]? = some (.cells #[.int .i64 seg, .int .i64 2000, .int .i64 (-1), .bool true, .int .i64 3, .slice (some ⟨r, off, none⟩) L.length cap] 99 (0, 0)) := blk_step h.box hg (fun e => absurd ((hR _ e).same ⟨_, h.box⟩) (by decide))
  have hlen : ∀ s : Sg, (L.set (L.length - 1) s).length = L.length := fun s => List.length_set
  have bat : ∀ t : Bs, BatIs y t → BatIs (z.setCell ⟨(lastS L).g, 1, none⟩ (.slice a' ((lastS L).ss.length + 1) c')) t := fun t ht => (ht.grown hg hR (by decide)).grown hg2 hT (by decide)
  refine ⟨⟨h.hp, ?_, h.hr, ⟨cur, blk_step q1z hg2 (fun e => absurd ((hT _ e).same ⟨_, q1z⟩) (by decide)), q2, fun i hi => ?_⟩, by rw [hlen]; exact h.cap1, h.cap2, by rw [hlen]; exact h.len, by rw [hlen]; exact hpos, fun i hi => ?_, fun i hi => ?_⟩,
    ((PKeep.refl B y).step hg (fun b e => ⟨hRB b e, hR b e⟩) (.inr (.inr (.inr rfl)))).step hg2 (fun b e => ⟨by injection e with e; subst e; exact hla.hB, hT b e⟩) (.inr (.inr (.inl rfl)))⟩
  · rw [hlen]
    exact blk_step bxz hg2 (fun e => absurd ((hT _ e).same ⟨_, bxz⟩) (by decide))
  · rw [hlen] at hi
    rw [set_get L _ i _ (by omega)]
    by_cases e : i = L.length - 1
    · rw [if_pos e]
      have := q3 i hi
      rw [e] at this
      rw [e]
      exact this
    · rw [if_neg e]; exact q3 i hi
  · rw [hlen] at hi
    rw [set_get L _ i _ (by omega)]
    by_cases e : i = L.length - 1
    · rw [if_pos e]
      refine ⟨hla.hB, ?_, ?_, fun k hk => ?_, by simp; omega⟩
      · rw [setCell_heap hlz]
        simp [Sg.v]
      · have h1 := own_step' ho hg2 (fun x hx e2 => absurd ((hT _ hx).same (own_hasT ho x e2)) (by decide))
        have e3 : ((lastS L).ss ++ [b]).length = (lastS L).ss.length + 1 := by simp
        simp only [Sg.v]
        rw [e3]
        exact h1
      · simp only [List.length_append, List.length_singleton] at hk
        by_cases e2 : k < (lastS L).ss.length
        · rw [show ((lastS L).ss ++ [b]).getD k bsz = (lastS L).ss.getD k bsz by simp [List.getD, List.getElem?_append, e2]]
          exact bat _ (hla.bat k e2)
        · obtain rfl : k = (lastS L).ss.length := by omega
          rw [show ((lastS L).ss ++ [b]).getD (lastS L).ss.length bsz = b by simp [List.getD]]
          exact bat _ hb
    · rw [if_neg e]
      have hs := h.seg i hi
      obtain ⟨a1, a2⟩ := h.apart i (by omega)
      have hz := hs.grown hg hR (by decide) (fun e2 => absurd ((hR _ e2).same ⟨_, hs.box⟩) (by decide)) (fun x hx => a2 x hx)
      exact hz.grown hg2 hT (by decide) (fun e2 => by injection e2 with e2; exact a1 e2.symm) (fun x hx e2 => absurd ((hT _ hx).same (own_hasT hz.own x e2)) (by decide))
  · rw [hlen] at hi
    have hlast : lastS (L.set (L.length - 1) ⟨(lastS L).g, (lastS L).base, a', c', (lastS L).ss ++ [b]⟩) = ⟨(lastS L).g, (lastS L).base, a', c', (lastS L).ss ++ [b]⟩ := by
      unfold lastS
      rw [List.length_set, set_get L _ _ _ (by omega), if_pos rfl]
    rw [hlast, set_get L _ i _ (by omega), if_neg (by omega)]
    obtain ⟨a1, a2⟩ := h.apart i hi
    refine ⟨a1, fun x hx e2 => ?_⟩
    have e3 : ((lastS L).ss ++ [b]).length = (lastS L).ss.length + 1 := by simp
    simp only [Sg.v] at hx
    rw [e3] at hx
    rcases hw with q | q
    · rw [q] at hx
      exact a2 x hx e2
    · rw [q] at hx
      injection hx with hx
      have := (own_hasT (h.seg i (by omega)).own x e2).lt
      omega
end Go.Proofs.Ytnnljdnaipjoiaa
