/- CacheOwn's walk. -/
import Derived.Test.YtohncckmennfbaaDoorCn
namespace Go.Proofs.YtohncckmennfbaaDoor
set_option linter.unusedSimpArgs false
set_option linter.unusedVariables false
set_option maxRecDepth 100000
open Go.RowKit Go.MapKept Go.Proofs
def rd (z : Int) (n : Nat) : Nat := (z % (n : Int)).toNat
theorem rd_lt (z : Int) (n : Nat) (h : 0 < n) : rd z n < n := by
  unfold rd
  have := Int.emod_lt_of_pos z (show (0 : Int) < n by omega)
  have := Int.emod_nonneg z (show (n : Int) ≠ 0 by omega)
  omega
theorem CP.keepsE {B : Nat} {E G : List Nat} {w w' : World} {c j dp : Nat} {d : Dv} {T : List (List Nat)} {off : Bool} {X : Tx} (h : CP B E w c j dp d T off X) (k : Keeps G w w') (hG : ∀ x ∈ G, x ∈ E) : CP B E w' c j dp d T off X := by
  obtain ⟨L, h1, h2, h3⟩ := h
  exact ⟨L, h1.blk (fun x hx => k.block x (h1.lt x hx) (fun q => (h2 x hx).2 (hG x q))), h2, h3.keeps k (fun x hx => List.mem_append.2 (.inr (hG x hx)))⟩
/-- A new block beside the cache. -/
theorem CS.with {B : Nat} {w1 w w' : World} {c dp m g : Nat} {V : Nat → List Nat} {X : Tx} (h : CS B [] w1 w c dp m V X) (hb : Below w.heap.size w w') (hg : w.heap.size ≤ g) (hlt : g < w'.heap.size) : CS B [g] w' w' c dp m V X := by
  obtain ⟨hF, j, d, T, h1, h2⟩ := h
  exact ⟨Fr.start (fun x hx => by simp at hx; subst hx; exact hlt) (Nat.le_trans (Nat.le_trans hF.big hF.size) hb.size) hF.pos (hF.below hb).tab, j, d, T, (h1.ext (fun x hx => by simp at hx; subst hx; exact .inr hg)).below hb, h2⟩
/-- That block is written over. -/
theorem CS.over {B : Nat} {w1 w2 w w' : World} {c dp m g : Nat} {V : Nat → List Nat} {X : Tx} (hF : Fr B [] w1 w) (hg : B ≤ g) (h : CS B [g] w2 w c dp m V X) (k : Keeps [g] w w') : CS B [] w1 w' c dp m V X := by
  obtain ⟨_, j, d, T, h1, h2⟩ := h
  exact ⟨hF.keeps k (fun x hx => by simp at hx; subst hx; exact ⟨hg, by simp⟩), j, d, T, (h1.keepsE k (fun x hx => hx)).ext (by simp), h2⟩
/-- A block of 512 cells, written over. -/
def Over (W : World) (g ty : Nat) (wr : World) : Prop := Keeps [g] W wr ∧ ∃ A : Array Value, wr.heap[g]? = some (.cells A ty (0, 0)) ∧ A.size = 512
theorem Over.start {W : World} {g ty : Nat} {c : List Nat} (h : Full W g ty c) (hc : c.length = 512) : Over W g ty W := ⟨Keeps.refl _ _, _, h, by simp [cv, hc]⟩
theorem Over.cell {W wr : World} {g ty : Nat} (h : Over W g ty wr) (k : Nat) (hk : k < 512) : ∃ v, wr.cell? ⟨g, k, none⟩ = some v ∧ wr.frozen? ⟨g, k, none⟩ = false := by
  obtain ⟨_, A, hA, hs⟩ := h
  exact ⟨A[k]'(by omega), by rw [cell_of_row _ _ _ _ _ _ hA]; simp [hs, hk], frozen_of_row wr g k A ty hA⟩
theorem Over.set {W wr : World} {g ty : Nat} (h : Over W g ty wr) (k : Nat) (v : Value) : Over W g ty (wr.setCell ⟨g, k, none⟩ v) := by
  obtain ⟨h1, A, hA, hs⟩ := h
  exact ⟨h1.setCell _ _ (.inl (by simp)), _, heap_setCell_same wr g k A ty v hA, by simp [hs]⟩
set_option maxHeartbeats 1000000 in
theorem cacheOwn_walk (a0 : Int) (a1 : Int) (w : World) (ht : Tab w) (w0 : (Lit.int .i64 a0).wf = true) (w1 : (Lit.int .i64 a1).wf = true) :
    Calls Tryd.prog 7 #[.int .i64 a0, .int .i64 a1] w fun e w' => e = .returned (.bool true) ∧ Below w.heap.size w w' := by
  have hF := Fr.law ht
  obtain ⟨z1, z2⟩ := bd64 w0
  obtain ⟨y1, y2⟩ := bd64 w1
  have HF : Hid _ := fresh_any hF
  have HRD : Hid (∀ w', Calls Tryd.prog 11 #[.int .i64 a1, .int .i64 80] w' fun e w'' => e = .returned (.int .i64 ((rd a1 80 : Nat) : Int)) ∧ w'' = w') := fun w' => round_any a1 80 w' y1 y2 (by omega) (by omega)
  have hK := rd_lt a1 80 (by omega)
  generalize rd a1 80 = K at *
  have hKI : (K : Int) < 80 := by omega
  have HWR : Hid (∀ w' g c dp, CS w.heap.size [g] w' w' c dp 3 zs0 tx0 → Full w' g 5 (bb a0) → Calls Tryd.prog 13 #[.pointer (some ⟨c, 0, none⟩), .int .i64 (245 + (K : Int)), .slice (some ⟨g, 0, none⟩) 512 512] w' fun e w'' => e = .returned (.int .i64 0) ∧ CS w.heap.size [g] w' w'' c dp 3 zs0 (some ([245 + K], updK (fun _ => zeros) (245 + K) (bb a0))) ∧ Full w'' g 5 (bb a0)) := fun w' g c dp h hg => by
    have := CS.write h (245 + K) (by omega) (by omega) rfl hg (bb_len a0) (bb_lt a0)
    rw [show ((245 + K : Nat) : Int) = 245 + (K : Int) by omega] at this
    refine this.mono ?_
    rintro e w'' ⟨rfl, hS⟩
    exact ⟨rfl, hS, hg.blk (hS.fr.same g (by simp))⟩
  have HRJ : Hid (∀ w' c dp, CS w.heap.size [] w w' c dp 3 zs0 (some ([245 + K], updK (fun _ => zeros) (245 + K) (bb a0))) → Calls Tryd.prog 21 #[.pointer (some ⟨c, 0, none⟩), .int .i64 (245 + (K : Int))] w' fun e w'' => ∃ g ty, e = .returned (.tuple #[.slice (some ⟨g, 0, none⟩) 512 512, .int .i64 0]) ∧ Full w'' g ty (bb a0) ∧ w'.heap.size ≤ g ∧ Below w'.heap.size w' w'') := fun w' c dp h => by
    have := h.read (245 + K) (by omega) (by omega)
    rw [show ((245 + K : Nat) : Int) = 245 + (K : Int) by omega, show txV zs0 (some ([245 + K], updK (fun _ => zeros) (245 + K) (bb a0))) (245 + K) = bb a0 by simp [txV, updK]] at this
    exact this
  clear hF ht
  go_enter Tryd.func7, Tryd.ntmps7
  go_wp2_with (first
    | (go_at_call 10; refine Calls.mono HF.out ?_; rintro e w2 ⟨dp, c, rfl, hS2⟩)
    | (go_at_call 12; refine (CS.begin hS2).mono ?_; rintro e w3 ⟨rfl, hS3⟩; clear hS2)
    | (go_at_call 11; refine (HRD.out _).mono ?_; rintro e w' ⟨rfl, hw⟩; subst w')
    | (go_at_call 14; refine (block_any _ _).mono ?_; rintro e w4 ⟨g, rfl, hg4, hge4, hb4⟩; have hS4 := hS3.with hb4 hge4 hg4.lt)
    | (go_at_call 13; refine (HWR.out w4 g c dp hS4 hg4).mono ?_; rintro e w5 ⟨rfl, hS5, hg5⟩))
  have hgB : w.heap.size ≤ g := Nat.le_trans hS3.fr.size hge4
  have hF5 : Fr w.heap.size [] w w5 := (hS3.fr.below hb4).trans hS5.fr (by simp)
  clear hS3 hS4 hg4 hb4 hge4 HWR HF HRD
  go_loopw [10] (fun i wr => ∃ k, k ≤ 512 ∧ i = .int .i64 ((k : Nat) : Int) ∧ Over w5 g 5 wr) (fun i _ => 512 - (intOf i).toNat)
  case atStart => exact ⟨0, by omega, rfl, Over.start hg5 (bb_len a0)⟩
  case round =>
    clear hg5
    obtain ⟨k, hk, rfl, hO⟩ := hrel
    by_cases hlt : k < 512
    · have hltI : (k : Int) < 512 := by omega
      obtain ⟨vc, hc, hfz⟩ := hO.cell k hlt
      have HO : Hid _ := hO
      clear hO
      go_wp2
      exact ⟨⟨k + 1, by omega, by go_num, Over.set HO.out k _⟩, by simp [intOf]; omega⟩
    · obtain rfl : k = 512 := by omega
      have hS8 := CS.over hF5 hgB hS5 hO.1
      clear hF5 hS5 hO
      go_wp2_with (first
        | (go_at_call 21; refine (HRJ.out wr c dp hS8).mono ?_; rintro e w9 ⟨g9, ty9, rfl, hg9, hge9, hb9⟩)
        | (go_at_call 14; refine (block_any _ _).mono ?_; rintro e w10 ⟨g10, rfl, hg10, _, hb10⟩; have hg9' := hg9.below hb10)
        | (go_at_call 26; refine (bytesF hg9' hg10 (bb_len a0) (bb_len a0) (bb_lt a0) (bb_lt a0)).mono ?_; rintro e w11 ⟨rfl, hb11⟩; rw [decide_eq_true rfl]))
      have hg11 := hg9'.below hb11
      have hb911 : Below wr.heap.size wr w11 := (hb9.trans (hb10.mono hb9.size)).trans (hb11.mono (Nat.le_trans hb9.size hb10.size))
      have hS11 := hS8.with hb911 hge9 hg11.lt
      have hF11 := hS8.fr.below hb911
      have hgB9 : w.heap.size ≤ g9 := Nat.le_trans hS8.fr.size hge9
      clear hg9 hg9' hg10 hb9 hb10 hb11 hS8 hb911
      go_loopw [13] (fun i wr => ∃ k, k ≤ 512 ∧ i = .int .i64 ((k : Nat) : Int) ∧ Over w11 g9 ty9 wr) (fun i _ => 512 - (intOf i).toNat)
      case atStart => exact ⟨0, by omega, rfl, Over.start hg11 (bb_len a0)⟩
      case round =>
        clear hg11
        obtain ⟨k, hk, rfl, hO⟩ := hrel
        by_cases hlt : k < 512
        · have hltI : (k : Int) < 512 := by omega
          obtain ⟨vc, hc, hfz⟩ := hO.cell k hlt
          have HO : Hid _ := hO
          clear hO
          go_wp2
          exact ⟨⟨k + 1, by omega, by go_num, Over.set HO.out k _⟩, by simp [intOf]; omega⟩
        · obtain rfl : k = 512 := by omega
          have hS12 := CS.over hF11 hgB9 hS11 hO.1
          clear hF11 hS11 hO
          go_wp2_with (first
            | (go_at_call 21; refine (HRJ.out _ c dp hS12).mono ?_; rintro e w13 ⟨g13, ty13, rfl, hg13, hge13, hb13⟩)
            | (go_at_call 14; refine (block_any _ _).mono ?_; rintro e w14 ⟨g14, rfl, hg14, _, hb14⟩; have hg13' := hg13.below hb14)
            | (go_at_call 26; refine (bytesF hg13' hg14 (bb_len a0) (bb_len a0) (bb_lt a0) (bb_lt a0)).mono ?_; rintro e w15 ⟨rfl, hb15⟩; rw [decide_eq_true rfl]; have hS15 := ((hS12.below hb13).below hb14).below hb15)
            | (go_at_call 16; refine (CS.commit hS15 (by omega)).mono ?_; rintro e w16 ⟨rfl, hS16⟩)
            | (go_at_call 9; refine (awake_any hS16.fr).mono ?_; rintro e w17 ⟨rfl, hF17⟩))
          go_ret
          exact ⟨rfl, hF17.bel⟩
end Go.Proofs.YtohncckmennfbaaDoor
