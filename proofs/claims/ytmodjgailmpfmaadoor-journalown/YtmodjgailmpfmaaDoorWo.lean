/- JournalOwn's walk. -/
import Derived.Test.YtmodjgailmpfmaaDoorLp
import Derived.Test.YtmodjgailmpfmaaDoorWn
namespace Go.Proofs.YtmodjgailmpfmaaDoor
set_option linter.unusedSimpArgs false
set_option linter.unusedVariables false
open Go.RowKit Go.MapKept Go.Proofs
theorem JP.keeps1 {B : Nat} {E : List Nat} {w w' : World} {j dp g : Nat} {d : Dv} {T : List (List Nat)} {off : Bool} (h : JP B E w j dp d T off) (k : Keeps [g] w w') (hg : g ∈ E) : JP B E w' j dp d T off := by
  obtain ⟨FP, hJ, hFP⟩ := h
  exact JP.same hJ hFP (fun x hx => k.block x (hJ.lt x hx) (by simp; rintro rfl; exact (hFP x hx).2 hg))
/-- A block of 512 cells, written over. -/
def Over (W : World) (g ty : Nat) (wr : World) : Prop := Keeps [g] W wr ∧ ∃ A : Array Value, wr.heap[g]? = some (.cells A ty (0, 0)) ∧ A.size = 512
theorem Over.start {W : World} {g ty : Nat} {c : List Nat} (h : Full W g ty c) (hc : c.length = 512) : Over W g ty W := ⟨Keeps.refl _ _, _, h, by simp [cv, hc]⟩
theorem Over.cell {W wr : World} {g ty : Nat} (h : Over W g ty wr) (k : Nat) (hk : k < 512) : ∃ v, wr.cell? ⟨g, k, none⟩ = some v ∧ wr.frozen? ⟨g, k, none⟩ = false := by
  obtain ⟨_, A, hA, hs⟩ := h
  exact ⟨A[k]'(by omega), by rw [cell_of_row _ _ _ _ _ _ hA]; simp [hs, hk], frozen_of_row wr g k A ty hA⟩
theorem Over.set {W wr : World} {g ty : Nat} (h : Over W g ty wr) (k : Nat) (v : Value) : Over W g ty (wr.setCell ⟨g, k, none⟩ v) := by
  obtain ⟨h1, A, hA, hs⟩ := h
  exact ⟨h1.setCell _ _ (.inl (by simp)), _, heap_setCell_same wr g k A ty v hA, by simp [hs]⟩
def OwnPost (B : Nat) (w1 : World) (j K : Nat) (v : Int) (b g : Nat) (e : Ending) (w' : World) : Prop := e = .returned (.int .i64 0) ∧ Fr B [] w1 w' ∧ Full w' g 5 (bb v) ∧ ∃ d' T' dp, JP B [b, g] w' j dp d' T' false ∧ Rest d' T' (newS zs0 [245 + K] [bb v]) ∧ d'.n = 275
set_option maxRecDepth 100000 in
set_option maxHeartbeats 1000000 in
theorem journalOwn_walk (a0 : Int) (a1 : Int) (w : World) (ht : Tab w) (w0 : (Lit.int .i64 a0).wf = true) (w1 : (Lit.int .i64 a1).wf = true) :
    Calls Tryd.prog 9 #[.int .i64 a0, .int .i64 a1] w fun e w' => e = .returned (.bool true) ∧ Below w.heap.size w w' := by
  have hF := Fr.law ht
  obtain ⟨z1, z2⟩ := bd64 w0
  obtain ⟨y1, y2⟩ := bd64 w1
  have HF : Hid _ := fresh_any hF
  have HRD : Hid (∀ w', Calls Tryd.prog 32 #[.int .i64 a1, .int .i64 30] w' fun e w'' => e = .returned (.int .i64 ((rd a1 30 : Nat) : Int)) ∧ w'' = w') := fun w' => round_any a1 30 w' y1 y2 (by omega) (by omega)
  have hK := rd_lt a1 30 (by omega)
  generalize rd a1 30 = K at *
  have hKI : (K : Int) < 30 := by omega
  have HCM : Hid (∀ w2 g dp j d, Fr w.heap.size [] w w2 → JP w.heap.size [] w2 j dp d [] false → Rest d [] zs0 → d.n = 275 → d.ops ≤ 3 → d.cut = false → ∀ w3, Below w2.heap.size w2 w3 → Full w3 g 5 (bb a0) → w2.heap.size ≤ g → Calls Tryd.prog 18 #[.pointer (some ⟨j, 0, none⟩), .slice (some ⟨w3.heap.size, 0, none⟩) 1 1] (w3.alloc (.cells #[.int .i64 (245 + (K : Int)), .slice (some ⟨g, 0, none⟩) 512 512] 49)) (OwnPost w.heap.size w j K a0 w3.heap.size g)) := by
    intro w2 g dp j d hF2 hJ2 hR2 hn ho hcut w3 hb3 hg hge
    have hb4 : Below w2.heap.size w2 (w3.alloc (.cells #[.int .i64 (245 + (K : Int)), .slice (some ⟨g, 0, none⟩) 512 512] 49)) := hb3.alloc hb3.size _
    have hlt : w3.heap.size < (w3.alloc (.cells #[.int .i64 (245 + (K : Int)), .slice (some ⟨g, 0, none⟩) 512 512] 49)).heap.size := by show _ < (w3.heap.push _).size; simp
    have hch := one_chs (E := []) (n := d.n) (k := 245 + K) hg (bb_len a0) (bb_lt a0) (by omega)
    rw [show ((245 + K : Nat) : Int) = 245 + (K : Int) by omega] at hch
    have hz := hb3.size
    have hg4 : Full (w3.alloc (.cells #[.int .i64 (245 + (K : Int)), .slice (some ⟨g, 0, none⟩) 512 512] 49)) g 5 (bb a0) := hg.below ((Below.refl _ _).alloc (Nat.le_refl _) _)
    refine (commitF (E := []) (Ex := [w3.heap.size, g]) (hF2.below hb4) (fun x hx => ?_) ((hJ2.ext (E' := [w3.heap.size, g] ++ []) (fun x hx => ?_)).below hb4) hR2 hch (by omega)).mono ?_
    · simp at hx; rcases hx with rfl | rfl
      · exact hlt
      · have := hg.lt; omega
    · simp at hx; rcases hx with rfl | rfl
      · exact .inr hz
      · exact .inr hge
    · rintro e w' ⟨c, rfl, hc⟩
      rcases hc with ⟨rfl, a, b, d', T', h1, h2, h3⟩ | ⟨_, _, _, d', T', _, _, h3, h4⟩
      · exact ⟨rfl, a, hg4.blk (b.same g (by simp)), d', T', dp, h1, h2, by rw [h3.n, hn]⟩
      · rw [h3.cut, hcut] at h4; cases h4
  have HRJ : Hid (∀ E w' j dp d T, JP w.heap.size E w' j dp d T false → Rest d T (newS zs0 [245 + K] [bb a0]) → d.n = 275 → Calls Tryd.prog 26 #[.pointer (some ⟨j, 0, none⟩), .int .i64 (245 + (K : Int))] w' fun e w'' => ∃ g, e = .returned (.tuple #[.slice (some ⟨g, 0, none⟩) 512 512, .int .i64 0]) ∧ Full w'' g 81 (bb a0) ∧ w'.heap.size ≤ g ∧ Below w'.heap.size w' w'') := fun E w' j dp d T h1 h2 h3 => by
    have := readJ h1 h2 (245 + K) (by omega) (by omega)
    rw [newS_one, show ((245 + K : Nat) : Int) = 245 + (K : Int) by omega] at this
    exact this
  clear hF ht
  go_enter Tryd.func9, Tryd.ntmps9
  go_wp2_with (first
    | (go_at_call 16; refine Calls.mono HF.out ?_; rintro e w2 ⟨dp, j, d, rfl, hF2, hJ2, hR2, hn2, hc2, ho2⟩; have tok1 : True := trivial)
    | (go_at_call 32; refine (HRD.out _).mono ?_; rintro e w' ⟨rfl, hw⟩; subst w')
    | (go_at_call 22; have _t := tok1; refine (block_any _ _).mono ?_; rintro e w3 ⟨g, rfl, hg3, hge3, hb3⟩; clear tok1 _t)
    | (go_at_call 18; refine (HCM.out w2 g dp j d hF2 hJ2 hR2 hn2 ho2 hc2 w3 hb3 hg3 hge3).mono ?_; rintro e w5 ⟨rfl, hF5, hg5, d', T', dp', hJ5, hR5, hn5⟩)
    | (go_at_call 22; refine (block_any _ _).mono ?_; rintro e w6 ⟨g6, rfl, hg6, _, hb6⟩; have hg5' := hg5.below hb6)
    | (go_at_call 21; refine (bytesF hg5' hg6 (bb_len a0) (bb_len a0) (bb_lt a0) (bb_lt a0)).mono ?_; rintro e w7 ⟨rfl, hb7⟩; rw [decide_eq_true rfl]))
  have hg7 := hg5'.below hb7
  have hF7 := (hF5.below hb6).below hb7
  have hJ7 := (hJ5.below hb6).below hb7
  have hgB : w.heap.size ≤ g := Nat.le_trans hF2.size hge3
  clear hg5 hg5' hg6 hb6 hb7 hF5 hJ5 hF2 hJ2 hR2 hg3 hb3 HCM HF HRD
  go_loopw [9] (fun i wr => ∃ k, k ≤ 512 ∧ i = .int .i64 ((k : Nat) : Int) ∧ Over w7 g 5 wr) (fun i _ => 512 - (intOf i).toNat)
  case atStart => exact ⟨0, by omega, rfl, Over.start hg7 (bb_len a0)⟩
  case round =>
    clear hg7
    obtain ⟨k, hk, rfl, hO⟩ := hrel
    by_cases hlt : k < 512
    · have hltI : (k : Int) < 512 := by omega
      obtain ⟨vc, hc, hfz⟩ := hO.cell k hlt
      have HO : Hid _ := hO
      clear hO
      go_wp2
      exact ⟨⟨k + 1, by omega, by go_num, Over.set HO.out k _⟩, by simp [intOf]; omega⟩
    · obtain rfl : k = 512 := by omega
      have hF8 := hF7.keeps hO.1 (fun x hx => by simp at hx; subst hx; exact ⟨hgB, by simp⟩)
      have hJ8 := hJ7.keeps1 hO.1 (by simp)
      clear hF7 hJ7 hO
      go_wp2_with (first
        | (go_at_call 26; refine (HRJ.out _ wr j dp' d' T' hJ8 hR5 hn5).mono ?_; rintro e w9 ⟨g9, rfl, hg9, hge9, hb9⟩)
        | (go_at_call 22; refine (block_any _ _).mono ?_; rintro e w10 ⟨g10, rfl, hg10, _, hb10⟩; have hg9' := hg9.below hb10)
        | (go_at_call 21; refine (bytesF hg9' hg10 (bb_len a0) (bb_len a0) (bb_lt a0) (bb_lt a0)).mono ?_; rintro e w11 ⟨rfl, hb11⟩; rw [decide_eq_true rfl]))
      have hg11 := hg9'.below hb11
      have hF11 := ((hF8.below hb9).below hb10).below hb11
      have hJ11 := (((hJ8.ext (E' := [g9]) (fun x hx => .inr (by simp at hx; subst hx; exact hge9))).below hb9).below hb10).below hb11
      have hgB9 : w.heap.size ≤ g9 := Nat.le_trans hF8.size hge9
      clear hg9 hg9' hg10 hb9 hb10 hb11 hF8 hJ8
      go_loopw [12] (fun i wr => ∃ k, k ≤ 512 ∧ i = .int .i64 ((k : Nat) : Int) ∧ Over w11 g9 81 wr) (fun i _ => 512 - (intOf i).toNat)
      case atStart => exact ⟨0, by omega, rfl, Over.start hg11 (bb_len a0)⟩
      case round =>
        clear hg11
        obtain ⟨k, hk, rfl, hO⟩ := hrel
        by_cases hlt : k < 512
        · have hltI : (k : Int) < 512 := by omega
          obtain ⟨vc, hc, hfz⟩ := hO.cell k hlt
          have HO : Hid _ := hO
          clear hO
          go_wp2
          exact ⟨⟨k + 1, by omega, by go_num, Over.set HO.out k _⟩, by simp [intOf]; omega⟩
        · obtain rfl : k = 512 := by omega
          have hF12 := hF11.keeps hO.1 (fun x hx => by simp at hx; subst hx; exact ⟨hgB9, by simp⟩)
          have hJ12 := hJ11.keeps1 hO.1 (by simp)
          clear hF11 hJ11 hO
          go_wp2_with (first
            | (go_at_call 26; refine (HRJ.out _ _ j dp' d' T' hJ12 hR5 hn5).mono ?_; rintro e w13 ⟨g13, rfl, hg13, hge13, hb13⟩)
            | (go_at_call 22; refine (block_any _ _).mono ?_; rintro e w14 ⟨g14, rfl, hg14, _, hb14⟩; have hg13' := hg13.below hb14)
            | (go_at_call 21; refine (bytesF hg13' hg14 (bb_len a0) (bb_len a0) (bb_lt a0) (bb_lt a0)).mono ?_; rintro e w15 ⟨rfl, hb15⟩; rw [decide_eq_true rfl]; have hF15 := ((hF12.below hb13).below hb14).below hb15)
            | (go_at_call 15; refine (awake_any hF15).mono ?_; rintro e w16 ⟨rfl, hF16⟩))
          go_ret
          exact ⟨rfl, hF16.bel⟩
end Go.Proofs.YtmodjgailmpfmaaDoor
