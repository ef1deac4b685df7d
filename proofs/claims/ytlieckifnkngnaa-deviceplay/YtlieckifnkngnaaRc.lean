/- The document's device: Crash. -/
import Derived.Test.YtlieckifnkngnaaRn
namespace Go.Proofs.Ytlieckifnkngnaa
set_option linter.unusedSimpArgs false
set_option linter.unusedVariables false
open Go.RowKit Go.MapKept
theorem new_cell' {X : World} {v u : Value} {t j s : Nat} (hs : s = X.heap.size) (hj : [v][j]? = some u) : (X.alloc (.cells #[v] t)).cell? ((⟨s, 0, none⟩ : Addr).add j) = some u := by
  subst hs; exact new_cell hj
theorem rank_le (d : Dv) : ∀ k, d.rank k ≤ k
  | 0 => Nat.le_refl _
  | k + 1 => by have := rank_le d k; simp only [Dv.rank]; split <;> omega
theorem tmod_low (z : Int) (m : Nat) : -((m : Int) + 2) < z.tmod ((m : Int) + 1 + 1) := by
  have h1 := Int.emod_nonneg z (show (m : Int) + 1 + 1 ≠ 0 by omega)
  have e := Int.tmod_eq_emod (a := z) (b := (m : Int) + 1 + 1)
  split at e <;> omega
theorem tmod_neg (z : Int) (m : Nat) (h : z.tmod ((m : Int) + 1) < 0) : z.tmod ((m : Int) + 1) + m + 1 = z % ((m : Int) + 1) := by
  have hz : z < 0 := by
    rcases Int.lt_or_le z 0 with a | a
    · exact a
    · have := Int.tmod_nonneg ((m : Int) + 1) a; omega
  have h1 := Int.emod_nonneg z (show (m : Int) + 1 ≠ 0 by omega)
  have h2 := Int.emod_lt_of_pos z (show 0 < (m : Int) + 1 by omega)
  have e := Int.tmod_eq_emod (a := z) (b := (m : Int) + 1)
  split at e <;> omega
theorem tmod_pos (z : Int) (m : Nat) (h : 0 ≤ z.tmod ((m : Int) + 1)) : z.tmod ((m : Int) + 1) = z % ((m : Int) + 1) := by
  have h1 := Int.emod_nonneg z (show (m : Int) + 1 ≠ 0 by omega)
  have h2 := Int.emod_lt_of_pos z (show 0 < (m : Int) + 1 by omega)
  have e := Int.tmod_eq_emod (a := z) (b := (m : Int) + 1)
  split at e <;> omega
section
variable {B : Nat} {w w' : World} {q gB cB gP cP : Nat} {bs ps : List Value} {rs : Nat → List Value} {G : List Nat} {d : Dv} {last : Int}
structure RcAt (w : World) (G : List Nat) (d : Dv) (l : List Int) (wr : World) (k : Nat) (vB vP : Value) (bs2 : List Value) : Prop where
  raw : Raw w.heap.size wr w.heap.size vB vP bs2 (List.replicate k (.slice none 0 0)) k k 0 (-1)
  by' : ∀ j, j < k → Byt wr G (bs2.getD j undef) (d.crashBase l j)
  bel : Below w.heap.size w wr
theorem RcAt.step {wr X : World} {l : List Int} {k : Nat} {vB vP v nB nP : Value} {bs2 : List Value} (h : RcAt w G d l wr k vB vP bs2) (hv : Byt wr G v (d.crashBase l k)) (hR : Raw w.heap.size X w.heap.size nB nP (bs2 ++ [v]) (List.replicate (k + 1) (.slice none 0 0)) (k + 1) (k + 1) 0 (-1)) (hb : Below w.heap.size wr X)
    (h5 : ∀ (x : Nat) (cs : Array Value) (fr : Nat × Nat), wr.heap[x]? = some (.cells cs 5 fr) → X.heap[x]? = wr.heap[x]?) : RcAt w G d l X (k + 1) nB nP (bs2 ++ [v]) := by
  have hlb : bs2.length = k := by have := h.raw.bo.1; omega
  refine ⟨hR, fun j hj => ?_, h.bel.trans hb⟩
  rw [getD_snoc, hlb]
  by_cases hjk : j < k
  · rw [if_pos hjk]; exact (h.by' j hjk).five h5 (fun _ y => y)
  · have : j = k := by omega
    subst this
    rw [if_neg hjk, if_pos rfl]; exact hv.five h5 (fun _ y => y)
set_option maxRecDepth 100000 in
set_option maxHeartbeats 4000000 in
theorem refCrash_any (h : RefAt B w q gB cB gP cP bs ps rs G d last) (hBs : B ≤ w.heap.size) (a0 : Option Addr) (l : List Int) (cap0 : Nat) (hl : RowI w a0 l) (hll : l.length ≤ 9223372036854775807) :
    Calls Try.prog 32 #[.pointer (some ⟨q, 0, none⟩), .slice a0 l.length cap0] w fun e w' => ∃ q' gB' cB' gP' cP' bs' ps' rs' G', e = .returned (.pointer (some ⟨q', 0, none⟩)) ∧ RefAt B w' q' gB' cB' gP' cP' bs' ps' rs' G' (d.crash l) (-1) ∧ (∀ x ∈ G', x ∈ G ∨ w.heap.size ≤ x) ∧ Below w.heap.size w w' := by
  have hn2 := h.ok.n2
  have HOK : Hid (d.crash l).Ok := h.ok.crash l
  have hllI : (l.length : Int) ≤ 9223372036854775807 := by omega
  go_enter Try.func32, Try.ntmps32
  go_wp2
  go_loopw [6, 7] (fun a i wr => ∃ (k : Nat) (vB vP : Value) (bs2 : List Value), k ≤ d.n ∧ a = .int .i64 ((d.rank k : Nat) : Int) ∧ i = .int .i64 (k : Int) ∧ RcAt w G d l wr k vB vP bs2) (fun _ i _ => d.n - (iof i).toNat)
  case atStart =>
    exact ⟨0, .slice none 0 0, .slice none 0 0, [], by omega, rfl, rfl, ⟨⟨heap_alloc_new w _, owns_nil _ _ _, owns_nil _ _ _, Nat.le_refl _⟩, fun j hj => by omega, (Below.refl _ _).alloc (Nat.le_refl _) _⟩⟩
  case round =>
    obtain ⟨k, vB, vP, bs2, hk, rfl, rfl, hA⟩ := hrel
    have hsz := hA.bel.size
    have h1 := h.below hA.bel
    have c0 : wr.cell? ⟨q, 0, none⟩ = some (.slice (some ⟨gB, 0, none⟩) d.n cB) := h1.c.1
    have c1 : wr.cell? ⟨q, 1, none⟩ = some (.slice (some ⟨gP, 0, none⟩) d.n cP) := h1.c.2.1
    by_cases hkn : k < d.n
    · have hkI : (k : Int) < (d.n : Int) := by omega
      have hR := hA.raw
      have hc := hR.c
      have hrk : d.rank k ≤ 65536 := by have := rank_le d k; omega
      have hrkI : ((d.rank k : Nat) : Int) ≤ 65536 := by omega
      have HCB : Hid (∀ v nB nP X, Byt wr G v (d.crashBase l k) → Raw w.heap.size X w.heap.size nB nP (bs2 ++ [v]) (List.replicate (k + 1) (.slice none 0 0)) (k + 1) (k + 1) 0 (-1) → Below w.heap.size wr X → (∀ (x : Nat) (cs : Array Value) (fr : Nat × Nat), wr.heap[x]? = some (.cells cs 5 fr) → X.heap[x]? = wr.heap[x]?) → RcAt w G d l X (k + 1) nB nP (bs2 ++ [v])) := fun v nB nP X a b c e => hA.step a b c e
      obtain ⟨i39, hi39, hy0, hy1, hy2⟩ := info_parts rinfo39
      obtain ⟨i61, hi61, hx0, hx1, hx2⟩ := info_parts rinfo61
      have hbc := h1.bcell k hkn
      have hBy := h1.by' k hkn
      obtain ⟨b, cb, cs, fr, hbv, _⟩ := h1.by' k hkn
      rw [hbv] at hbc hBy
      have HBY : Hid (Byt wr G (.slice (some ⟨b, 0, none⟩) 512 cb) (d.base k)) := hBy
      have hp := h1.pcell k hkn
      have hro := h1.ro k hkn
      have hcnt : (d.pend k).length ≤ 1000000 := by have := h.ok.count k; have := h.ok.ops; omega
      have HCB0 : Hid (d.pend k = [] → d.crashBase l k = d.base k) := fun e => by simp [Dv.crashBase, e, Dv.at]
      have HRK : Hid (d.rank (k + 1) = d.rank k + if d.pend k = [] then 0 else 1) := rfl
      rcases owns_shape hro with ⟨hpv, hp0⟩ | ⟨g, pc, hpv, hle⟩
      · rw [hpv] at hp
        have he : d.pend k = [] := List.length_eq_zero_iff.1 hp0
        have HFB := HCB0.out he
        have HFR : Hid (d.rank (k + 1) = d.rank k) := by show _ = _; rw [HRK.out, if_pos he]; omega
        clear hA h1 hbv hBy hro he
        go_wp2_with (first
            | (at_builtin; refine wpList_append_lies (wr.alloc _) (by rfl) _ _ 61 (by rfl) w.heap.size 39 i39 (.slice none 0 0) 1 24 Try.underlying61 hi39 hy0 hy1 hy2 rfl (by decide) vB k bs2 (by rfl) (hR.bo.alloc _) ⟨wr.heap.size, 0, none⟩ 1 1 [.slice (some ⟨b, 0, none⟩) 512 cb] (by rfl) (by rfl) (fun j u hj => new_cell hj) (by simp [Value.oneCell']) (by decide) (by unfold maxLen; omega) (by omega) (by rw [size_alloc]; omega) (wr.heap.size + 1) (size_alloc _ _) ?_; intro g4 cap4 w4 ho4 hg4 hat4 hlt4; have e4 := (hg4.block w.heap.size (by rw [size_alloc]; have := hR.lt; omega) hR.sep.1).trans (heap_alloc_lt hR.lt); have c4 := (cell_blk (i := 0) e4).trans hc.1; have c41 := (cell_blk (i := 1) e4).trans hc.2.1; have f4 : ∀ x, w4.frozen? ⟨w.heap.size, x, none⟩ = false := fun x => frozen_of_row _ _ _ _ _ (e4.trans hR.cells); have hR5 := hR.addB ho4 hg4 hat4; have c5 := hR5.c.2.1)
            | (at_builtin; refine wpList_append_lies (World.alloc (w4.setCell ⟨w.heap.size, 0, none⟩ (.slice (some ⟨g4, 0, none⟩) (k + 1) cap4)) _) (by rfl) _ _ 62 (by rfl) w.heap.size 61 i61 (.slice none 0 0) 1 24 Try.underlying62 hi61 hx0 hx1 hx2 rfl (by decide) vP k (List.replicate k (.slice none 0 0)) (by rfl) (hR5.po.alloc _) ⟨w4.heap.size, 0, none⟩ 1 1 [.slice none 0 0] (by rfl) (by rfl) (fun j u hj => new_cell' (by simp [World.setCell]) hj) (by simp [Value.oneCell']) (by decide) (by unfold maxLen; omega) (by omega) (by rw [size_alloc]; have := hg4.size; rw [size_alloc] at this; simp [World.setCell]; omega) (w4.heap.size + 1) (by rw [size_alloc]; simp [World.setCell]) ?_; intro g7 cap7 w7 ho7 hg7 hat7 hlt7; have e7 := (hg7.block w.heap.size (by rw [size_alloc]; have := hR5.lt; omega) hR5.sep.2.1).trans (heap_alloc_lt hR5.lt); have c7 := (cell_blk (i := 1) e7).trans c5; have f7 : w7.frozen? ⟨w.heap.size, 1, none⟩ = false := frozen_of_row _ _ _ _ _ (e7.trans hR5.cells)))
        obtain ⟨hRn, hBn, h5⟩ := hR.both hsz ho4 hg4 hat4 ho7 hg7 (hat7.imp id (fun e => by rw [e]; simp [World.setCell]))
        exact ⟨⟨k + 1, _, _, _, by omega, by rw [HFR.out], by go_num, HCB.out _ _ _ _ (by rw [HFB]; exact HBY.out) hRn hBn h5⟩, by simp [iof]; omega⟩
      · by_cases hz : (d.pend k).length = 0
        · rw [hpv, hz] at hp
          have he : d.pend k = [] := List.length_eq_zero_iff.1 hz
          have HFB := HCB0.out he
          have HFR : Hid (d.rank (k + 1) = d.rank k) := by show _ = _; rw [HRK.out, if_pos he]; omega
          clear hA h1 hbv hBy hro he hz
          go_wp2_with (first
            | (at_builtin; refine wpList_append_lies (wr.alloc _) (by rfl) _ _ 61 (by rfl) w.heap.size 39 i39 (.slice none 0 0) 1 24 Try.underlying61 hi39 hy0 hy1 hy2 rfl (by decide) vB k bs2 (by rfl) (hR.bo.alloc _) ⟨wr.heap.size, 0, none⟩ 1 1 [.slice (some ⟨b, 0, none⟩) 512 cb] (by rfl) (by rfl) (fun j u hj => new_cell hj) (by simp [Value.oneCell']) (by decide) (by unfold maxLen; omega) (by omega) (by rw [size_alloc]; omega) (wr.heap.size + 1) (size_alloc _ _) ?_; intro g4 cap4 w4 ho4 hg4 hat4 hlt4; have e4 := (hg4.block w.heap.size (by rw [size_alloc]; have := hR.lt; omega) hR.sep.1).trans (heap_alloc_lt hR.lt); have c4 := (cell_blk (i := 0) e4).trans hc.1; have c41 := (cell_blk (i := 1) e4).trans hc.2.1; have f4 : ∀ x, w4.frozen? ⟨w.heap.size, x, none⟩ = false := fun x => frozen_of_row _ _ _ _ _ (e4.trans hR.cells); have hR5 := hR.addB ho4 hg4 hat4; have c5 := hR5.c.2.1)
            | (at_builtin; refine wpList_append_lies (World.alloc (w4.setCell ⟨w.heap.size, 0, none⟩ (.slice (some ⟨g4, 0, none⟩) (k + 1) cap4)) _) (by rfl) _ _ 62 (by rfl) w.heap.size 61 i61 (.slice none 0 0) 1 24 Try.underlying62 hi61 hx0 hx1 hx2 rfl (by decide) vP k (List.replicate k (.slice none 0 0)) (by rfl) (hR5.po.alloc _) ⟨w4.heap.size, 0, none⟩ 1 1 [.slice none 0 0] (by rfl) (by rfl) (fun j u hj => new_cell' (by simp [World.setCell]) hj) (by simp [Value.oneCell']) (by decide) (by unfold maxLen; omega) (by omega) (by rw [size_alloc]; have := hg4.size; rw [size_alloc] at this; simp [World.setCell]; omega) (w4.heap.size + 1) (by rw [size_alloc]; simp [World.setCell]) ?_; intro g7 cap7 w7 ho7 hg7 hat7 hlt7; have e7 := (hg7.block w.heap.size (by rw [size_alloc]; have := hR5.lt; omega) hR5.sep.2.1).trans (heap_alloc_lt hR5.lt); have c7 := (cell_blk (i := 1) e7).trans c5; have f7 : w7.frozen? ⟨w.heap.size, 1, none⟩ = false := frozen_of_row _ _ _ _ _ (e7.trans hR5.cells)))
          obtain ⟨hRn, hBn, h5⟩ := hR.both hsz ho4 hg4 hat4 ho7 hg7 (hat7.imp id (fun e => by rw [e]; simp [World.setCell]))
          exact ⟨⟨k + 1, _, _, _, by omega, by rw [HFR.out], by go_num, HCB.out _ _ _ _ (by rw [HFB]; exact HBY.out) hRn hBn h5⟩, by simp [iof]; omega⟩
        · obtain ⟨m, hm⟩ : ∃ m, (d.pend k).length = m + 1 := ⟨(d.pend k).length - 1, by omega⟩
          have hne : ¬ d.pend k = [] := fun e => by rw [e] at hm; simp at hm
          have HFR : Hid (d.rank (k + 1) = d.rank k + 1) := by show _ = _; rw [HRK.out, if_neg hne]
          have HCP : Hid (d.crashBase l k = d.at k (pickOf l (d.rank k) (m + 1))) := by show _ = _; simp [Dv.crashBase, hne, hm]
          rw [hpv] at hp hro
          rw [hm] at hp hro hle
          have hmI : (m : Int) ≤ 1000000 := by omega
          have hL := hl.below hA.bel
          have HPB : Hid (∀ x, x < m + 1 → ∃ b2 c2, (rs k).getD x undef = .slice (some ⟨b2, 0, none⟩) 512 c2 ∧ Byt wr G (.slice (some ⟨b2, 0, none⟩) 512 c2) ((d.pend k).getD x [])) := fun x hx => by
            have := h1.pby k x hkn (by omega)
            obtain ⟨b2, c2, _, _, hv, _⟩ := h1.pby k x hkn (by omega)
            rw [hv] at this
            exact ⟨b2, c2, hv, this⟩
          by_cases hr : d.rank k < l.length
          · obtain ⟨b0, o0, rfl, hcell, hz1, hz2⟩ := hL (d.rank k) hr
            have hrI : ((d.rank k : Nat) : Int) < (l.length : Int) := by omega
            have HPK : Hid (pickOf l (d.rank k) (m + 1) = (l.getD (d.rank k) 0 % (((m + 1 : Nat) : Int) + 1)).toNat) := by show _ = _; simp [pickOf, hr]
            obtain ⟨z, HZ⟩ : ∃ z, Hid (l.getD (d.rank k) 0 = z) := ⟨_, rfl⟩
            rw [HZ.out] at hcell hz1 hz2 HPK
            obtain ⟨t, HT⟩ : ∃ t, Hid (z.tmod ((m : Int) + 1 + 1) = t) := ⟨_, rfl⟩
            have ht1 : t < (m : Int) + 2 := by rw [← HT.out]; have := Int.tmod_lt_of_pos z (show 0 < (m : Int) + 1 + 1 by omega); omega
            have ht2 : -((m : Int) + 2) < t := by rw [← HT.out]; exact tmod_low z m
            have hT : z.tmod ((m : Int) + 1 + 1) = t := HT.out
            clear hA h1 hbv hBy hne hz hm hcnt hL HT
            have HTN : Hid (t < 0 → (z % (((m + 1 : Nat) : Int) + 1)).toNat = (t + ((m : Int) + 1)).toNat + 1) := fun h0 => by
              have := tmod_neg z (m + 1) (by rw [show (((m + 1 : Nat) : Int) + 1) = (m : Int) + 1 + 1 by omega, hT]; exact h0)
              rw [show (((m + 1 : Nat) : Int) + 1) = (m : Int) + 1 + 1 by omega, hT] at this
              rw [show (((m + 1 : Nat) : Int) + 1) = (m : Int) + 1 + 1 by omega, ← this]
              omega
            have HTP : Hid (0 ≤ t → (z % (((m + 1 : Nat) : Int) + 1)).toNat = t.toNat) := fun h0 => by
              have := tmod_pos z (m + 1) (by rw [show (((m + 1 : Nat) : Int) + 1) = (m : Int) + 1 + 1 by omega, hT]; exact h0)
              rw [show (((m + 1 : Nat) : Int) + 1) = (m : Int) + 1 + 1 by omega, hT] at this
              rw [show (((m + 1 : Nat) : Int) + 1) = (m : Int) + 1 + 1 by omega, ← this]
            by_cases ht0 : t < 0
            · obtain ⟨x, hxe⟩ : ∃ x : Nat, t + ((m : Int) + 1) = (x : Int) := ⟨(t + ((m : Int) + 1)).toNat, by omega⟩
              have hxm : x < m + 1 := by omega
              obtain ⟨b2, c2, hv2, hB2⟩ := HPB.out x hxm
              have hrc := owns_cell' hro x hxm
              rw [hv2] at hrc
              have HB2 : Hid (Byt wr G (.slice (some ⟨b2, 0, none⟩) 512 c2) (d.crashBase l k)) := by
                show Byt _ _ _ _
                rw [HCP.out, HPK.out, HTN.out ht0, hxe]
                simpa [Dv.at] using hB2
              have hxI : (x : Int) < (m : Int) + 1 := by omega
              have hxJ : (0 : Int) < (x : Int) + 1 := by omega
              have hwx : IntKind.i64.wrap (x : Int) = (x : Int) := wrap_small (by omega) (by omega)
              clear hv2 hB2 hro hxm
              go_wp2_with (first
            | (at_builtin; refine wpList_append_lies (wr.alloc _) (by rfl) _ _ 61 (by rfl) w.heap.size 39 i39 (.slice none 0 0) 1 24 Try.underlying61 hi39 hy0 hy1 hy2 rfl (by decide) vB k bs2 (by rfl) (hR.bo.alloc _) ⟨wr.heap.size, 0, none⟩ 1 1 [.slice (some ⟨b2, 0, none⟩) 512 c2] (by rfl) (by rfl) (fun j u hj => new_cell hj) (by simp [Value.oneCell']) (by decide) (by unfold maxLen; omega) (by omega) (by rw [size_alloc]; omega) (wr.heap.size + 1) (size_alloc _ _) ?_; intro g4 cap4 w4 ho4 hg4 hat4 hlt4; have e4 := (hg4.block w.heap.size (by rw [size_alloc]; have := hR.lt; omega) hR.sep.1).trans (heap_alloc_lt hR.lt); have c4 := (cell_blk (i := 0) e4).trans hc.1; have c41 := (cell_blk (i := 1) e4).trans hc.2.1; have f4 : ∀ x, w4.frozen? ⟨w.heap.size, x, none⟩ = false := fun x => frozen_of_row _ _ _ _ _ (e4.trans hR.cells); have hR5 := hR.addB ho4 hg4 hat4; have c5 := hR5.c.2.1)
            | (at_builtin; refine wpList_append_lies (World.alloc (w4.setCell ⟨w.heap.size, 0, none⟩ (.slice (some ⟨g4, 0, none⟩) (k + 1) cap4)) _) (by rfl) _ _ 62 (by rfl) w.heap.size 61 i61 (.slice none 0 0) 1 24 Try.underlying62 hi61 hx0 hx1 hx2 rfl (by decide) vP k (List.replicate k (.slice none 0 0)) (by rfl) (hR5.po.alloc _) ⟨w4.heap.size, 0, none⟩ 1 1 [.slice none 0 0] (by rfl) (by rfl) (fun j u hj => new_cell' (by simp [World.setCell]) hj) (by simp [Value.oneCell']) (by decide) (by unfold maxLen; omega) (by omega) (by rw [size_alloc]; have := hg4.size; rw [size_alloc] at this; simp [World.setCell]; omega) (w4.heap.size + 1) (by rw [size_alloc]; simp [World.setCell]) ?_; intro g7 cap7 w7 ho7 hg7 hat7 hlt7; have e7 := (hg7.block w.heap.size (by rw [size_alloc]; have := hR5.lt; omega) hR5.sep.2.1).trans (heap_alloc_lt hR5.lt); have c7 := (cell_blk (i := 1) e7).trans c5; have f7 : w7.frozen? ⟨w.heap.size, 1, none⟩ = false := frozen_of_row _ _ _ _ _ (e7.trans hR5.cells)))
              obtain ⟨hRn, hBn, h5⟩ := hR.both hsz ho4 hg4 hat4 ho7 hg7 (hat7.imp id (fun e => by rw [e]; simp [World.setCell]))
              exact ⟨⟨k + 1, _, _, _, by omega, by rw [HFR.out]; go_num, by go_num, HCB.out _ _ _ _ (HB2.out) hRn hBn h5⟩, by simp [iof]; omega⟩
            · by_cases ht1 : t = 0
              · have HFB : Hid (d.crashBase l k = d.base k) := by show _ = _; rw [HCP.out, HPK.out, HTP.out (by omega), ht1]; simp [Dv.at]
                subst ht1
                clear hro
                go_wp2_with (first
            | (at_builtin; refine wpList_append_lies (wr.alloc _) (by rfl) _ _ 61 (by rfl) w.heap.size 39 i39 (.slice none 0 0) 1 24 Try.underlying61 hi39 hy0 hy1 hy2 rfl (by decide) vB k bs2 (by rfl) (hR.bo.alloc _) ⟨wr.heap.size, 0, none⟩ 1 1 [.slice (some ⟨b, 0, none⟩) 512 cb] (by rfl) (by rfl) (fun j u hj => new_cell hj) (by simp [Value.oneCell']) (by decide) (by unfold maxLen; omega) (by omega) (by rw [size_alloc]; omega) (wr.heap.size + 1) (size_alloc _ _) ?_; intro g4 cap4 w4 ho4 hg4 hat4 hlt4; have e4 := (hg4.block w.heap.size (by rw [size_alloc]; have := hR.lt; omega) hR.sep.1).trans (heap_alloc_lt hR.lt); have c4 := (cell_blk (i := 0) e4).trans hc.1; have c41 := (cell_blk (i := 1) e4).trans hc.2.1; have f4 : ∀ x, w4.frozen? ⟨w.heap.size, x, none⟩ = false := fun x => frozen_of_row _ _ _ _ _ (e4.trans hR.cells); have hR5 := hR.addB ho4 hg4 hat4; have c5 := hR5.c.2.1)
            | (at_builtin; refine wpList_append_lies (World.alloc (w4.setCell ⟨w.heap.size, 0, none⟩ (.slice (some ⟨g4, 0, none⟩) (k + 1) cap4)) _) (by rfl) _ _ 62 (by rfl) w.heap.size 61 i61 (.slice none 0 0) 1 24 Try.underlying62 hi61 hx0 hx1 hx2 rfl (by decide) vP k (List.replicate k (.slice none 0 0)) (by rfl) (hR5.po.alloc _) ⟨w4.heap.size, 0, none⟩ 1 1 [.slice none 0 0] (by rfl) (by rfl) (fun j u hj => new_cell' (by simp [World.setCell]) hj) (by simp [Value.oneCell']) (by decide) (by unfold maxLen; omega) (by omega) (by rw [size_alloc]; have := hg4.size; rw [size_alloc] at this; simp [World.setCell]; omega) (w4.heap.size + 1) (by rw [size_alloc]; simp [World.setCell]) ?_; intro g7 cap7 w7 ho7 hg7 hat7 hlt7; have e7 := (hg7.block w.heap.size (by rw [size_alloc]; have := hR5.lt; omega) hR5.sep.2.1).trans (heap_alloc_lt hR5.lt); have c7 := (cell_blk (i := 1) e7).trans c5; have f7 : w7.frozen? ⟨w.heap.size, 1, none⟩ = false := frozen_of_row _ _ _ _ _ (e7.trans hR5.cells)))
                obtain ⟨hRn, hBn, h5⟩ := hR.both hsz ho4 hg4 hat4 ho7 hg7 (hat7.imp id (fun e => by rw [e]; simp [World.setCell]))
                exact ⟨⟨k + 1, _, _, _, by omega, by rw [HFR.out]; go_num, by go_num, HCB.out _ _ _ _ (by rw [HFB.out]; exact HBY.out) hRn hBn h5⟩, by simp [iof]; omega⟩
              · obtain ⟨x, hxe⟩ : ∃ x : Nat, t = (x : Int) + 1 := ⟨(t - 1).toNat, by omega⟩
                have hxm : x < m + 1 := by omega
                obtain ⟨b2, c2, hv2, hB2⟩ := HPB.out x hxm
                have hrc := owns_cell' hro x hxm
                rw [hv2] at hrc
                have HB2 : Hid (Byt wr G (.slice (some ⟨b2, 0, none⟩) 512 c2) (d.crashBase l k)) := by
                  show Byt _ _ _ _
                  rw [HCP.out, HPK.out, HTP.out (by omega), hxe, show ((x : Int) + 1).toNat = x + 1 by omega]
                  simpa [Dv.at] using hB2
                subst hxe
                have hxI : (x : Int) < (m : Int) + 1 := by omega
                have hwx : IntKind.i64.wrap (x : Int) = (x : Int) := wrap_small (by omega) (by omega)
                clear hv2 hB2 hro hxm
                go_wp2_with (first
            | (at_builtin; refine wpList_append_lies (wr.alloc _) (by rfl) _ _ 61 (by rfl) w.heap.size 39 i39 (.slice none 0 0) 1 24 Try.underlying61 hi39 hy0 hy1 hy2 rfl (by decide) vB k bs2 (by rfl) (hR.bo.alloc _) ⟨wr.heap.size, 0, none⟩ 1 1 [.slice (some ⟨b2, 0, none⟩) 512 c2] (by rfl) (by rfl) (fun j u hj => new_cell hj) (by simp [Value.oneCell']) (by decide) (by unfold maxLen; omega) (by omega) (by rw [size_alloc]; omega) (wr.heap.size + 1) (size_alloc _ _) ?_; intro g4 cap4 w4 ho4 hg4 hat4 hlt4; have e4 := (hg4.block w.heap.size (by rw [size_alloc]; have := hR.lt; omega) hR.sep.1).trans (heap_alloc_lt hR.lt); have c4 := (cell_blk (i := 0) e4).trans hc.1; have c41 := (cell_blk (i := 1) e4).trans hc.2.1; have f4 : ∀ x, w4.frozen? ⟨w.heap.size, x, none⟩ = false := fun x => frozen_of_row _ _ _ _ _ (e4.trans hR.cells); have hR5 := hR.addB ho4 hg4 hat4; have c5 := hR5.c.2.1)
            | (at_builtin; refine wpList_append_lies (World.alloc (w4.setCell ⟨w.heap.size, 0, none⟩ (.slice (some ⟨g4, 0, none⟩) (k + 1) cap4)) _) (by rfl) _ _ 62 (by rfl) w.heap.size 61 i61 (.slice none 0 0) 1 24 Try.underlying62 hi61 hx0 hx1 hx2 rfl (by decide) vP k (List.replicate k (.slice none 0 0)) (by rfl) (hR5.po.alloc _) ⟨w4.heap.size, 0, none⟩ 1 1 [.slice none 0 0] (by rfl) (by rfl) (fun j u hj => new_cell' (by simp [World.setCell]) hj) (by simp [Value.oneCell']) (by decide) (by unfold maxLen; omega) (by omega) (by rw [size_alloc]; have := hg4.size; rw [size_alloc] at this; simp [World.setCell]; omega) (w4.heap.size + 1) (by rw [size_alloc]; simp [World.setCell]) ?_; intro g7 cap7 w7 ho7 hg7 hat7 hlt7; have e7 := (hg7.block w.heap.size (by rw [size_alloc]; have := hR5.lt; omega) hR5.sep.2.1).trans (heap_alloc_lt hR5.lt); have c7 := (cell_blk (i := 1) e7).trans c5; have f7 : w7.frozen? ⟨w.heap.size, 1, none⟩ = false := frozen_of_row _ _ _ _ _ (e7.trans hR5.cells)))
                obtain ⟨hRn, hBn, h5⟩ := hR.both hsz ho4 hg4 hat4 ho7 hg7 (hat7.imp id (fun e => by rw [e]; simp [World.setCell]))
                exact ⟨⟨k + 1, _, _, _, by omega, by rw [HFR.out]; go_num, by go_num, HCB.out _ _ _ _ (HB2.out) hRn hBn h5⟩, by simp [iof]; omega⟩
          · have hrI : ¬ ((d.rank k : Nat) : Int) < (l.length : Int) := by omega
            have HPK : Hid (pickOf l (d.rank k) (m + 1) = 0) := by show _ = _; simp [pickOf, hr]
            have HFB : Hid (d.crashBase l k = d.base k) := by show _ = _; rw [HCP.out, HPK.out]; simp [Dv.at]
            clear hA h1 hbv hBy hro hne hz hm hcnt hL
            go_wp2_with (first
            | (at_builtin; refine wpList_append_lies (wr.alloc _) (by rfl) _ _ 61 (by rfl) w.heap.size 39 i39 (.slice none 0 0) 1 24 Try.underlying61 hi39 hy0 hy1 hy2 rfl (by decide) vB k bs2 (by rfl) (hR.bo.alloc _) ⟨wr.heap.size, 0, none⟩ 1 1 [.slice (some ⟨b, 0, none⟩) 512 cb] (by rfl) (by rfl) (fun j u hj => new_cell hj) (by simp [Value.oneCell']) (by decide) (by unfold maxLen; omega) (by omega) (by rw [size_alloc]; omega) (wr.heap.size + 1) (size_alloc _ _) ?_; intro g4 cap4 w4 ho4 hg4 hat4 hlt4; have e4 := (hg4.block w.heap.size (by rw [size_alloc]; have := hR.lt; omega) hR.sep.1).trans (heap_alloc_lt hR.lt); have c4 := (cell_blk (i := 0) e4).trans hc.1; have c41 := (cell_blk (i := 1) e4).trans hc.2.1; have f4 : ∀ x, w4.frozen? ⟨w.heap.size, x, none⟩ = false := fun x => frozen_of_row _ _ _ _ _ (e4.trans hR.cells); have hR5 := hR.addB ho4 hg4 hat4; have c5 := hR5.c.2.1)
            | (at_builtin; refine wpList_append_lies (World.alloc (w4.setCell ⟨w.heap.size, 0, none⟩ (.slice (some ⟨g4, 0, none⟩) (k + 1) cap4)) _) (by rfl) _ _ 62 (by rfl) w.heap.size 61 i61 (.slice none 0 0) 1 24 Try.underlying62 hi61 hx0 hx1 hx2 rfl (by decide) vP k (List.replicate k (.slice none 0 0)) (by rfl) (hR5.po.alloc _) ⟨w4.heap.size, 0, none⟩ 1 1 [.slice none 0 0] (by rfl) (by rfl) (fun j u hj => new_cell' (by simp [World.setCell]) hj) (by simp [Value.oneCell']) (by decide) (by unfold maxLen; omega) (by omega) (by rw [size_alloc]; have := hg4.size; rw [size_alloc] at this; simp [World.setCell]; omega) (w4.heap.size + 1) (by rw [size_alloc]; simp [World.setCell]) ?_; intro g7 cap7 w7 ho7 hg7 hat7 hlt7; have e7 := (hg7.block w.heap.size (by rw [size_alloc]; have := hR5.lt; omega) hR5.sep.2.1).trans (heap_alloc_lt hR5.lt); have c7 := (cell_blk (i := 1) e7).trans c5; have f7 : w7.frozen? ⟨w.heap.size, 1, none⟩ = false := frozen_of_row _ _ _ _ _ (e7.trans hR5.cells)))
            obtain ⟨hRn, hBn, h5⟩ := hR.both hsz ho4 hg4 hat4 ho7 hg7 (hat7.imp id (fun e => by rw [e]; simp [World.setCell]))
            exact ⟨⟨k + 1, _, _, _, by omega, by rw [HFR.out]; go_num, by go_num, HCB.out _ _ _ _ (by rw [HFB.out]; exact HBY.out) hRn hBn h5⟩, by simp [iof]; omega⟩
    · obtain rfl : k = d.n := by omega
      obtain ⟨gB', cB', gP', cP', hRef, hb1, hb2⟩ := Raw.done (F := d.crashBase l) (G := G) (hA.raw.mono hBs) HOK.out hA.by' (fun x hx => by have := h1.glt x hx; exact this)
      have hx1 := owns_blk' hA.raw.bo hb1
      have hx2 := owns_blk' hA.raw.po hb2
      have hbel := hA.bel
      clear hA h1
      go_wp2
      go_ret
      refine ⟨_, gB', cB', gP', cP', _, _, _, _, rfl, hRef, fun x hx => ?_, hbel⟩
      simp only [List.mem_cons] at hx
      obtain ⟨_, _, y1⟩ := hx1
      obtain ⟨_, _, y2⟩ := hx2
      rcases hx with rfl | rfl | rfl | hx
      · exact .inr (Nat.le_refl _)
      · exact .inr y1
      · exact .inr y2
      · exact .inl hx
end
end Go.Proofs.Ytlieckifnkngnaa
