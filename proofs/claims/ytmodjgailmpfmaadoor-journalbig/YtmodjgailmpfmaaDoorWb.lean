/- JournalBig's walk. -/
import Derived.Test.YtmodjgailmpfmaaDoorLr
namespace Go.Proofs.YtmodjgailmpfmaaDoor
set_option linter.unusedSimpArgs false
set_option linter.unusedVariables false
open Go.RowKit Go.MapKept Go.Proofs
def fb1 : Nat → Int := fun i => (i : Int) + 1
set_option maxRecDepth 100000 in
set_option maxHeartbeats 2000000 in
theorem journalBig_walk (a0 : Int) (w : World) (ht : Tab w) (w0 : (Lit.int .i64 a0).wf = true) :
    Calls Tryd.prog 5 #[.int .i64 a0] w fun e w' => e = .returned (.bool true) ∧ Below w.heap.size w w' := by
  have hF := Fr.law ht
  have HAW : Hid _ := awake_any hF
  by_cases hA : 0 ≤ a0 ∧ a0 ≤ 80
  case neg =>
    clear hF ht
    by_cases n1 : 0 ≤ a0
    · have n2 : ¬ a0 ≤ 80 := by omega
      clear hA
      go_enter Tryd.func5, Tryd.ntmps5
      go_wp2_with (go_at_call 15; refine Calls.mono HAW.out ?_; rintro e w2 ⟨rfl, hF2⟩)
      go_ret
      exact ⟨rfl, hF2.bel⟩
    · clear hA
      go_enter Tryd.func5, Tryd.ntmps5
      go_wp2_with (go_at_call 15; refine Calls.mono HAW.out ?_; rintro e w2 ⟨rfl, hF2⟩)
      go_ret
      exact ⟨rfl, hF2.bel⟩
  obtain ⟨n1, n2⟩ := hA
  obtain ⟨N, rfl⟩ := Int.eq_ofNat_of_zero_le n1
  obtain ⟨i0, hi, hz0, hz1, hz2⟩ := info_parts info49
  have HN : Hid (Calls Tryd.prog 25 #[.int .i64 325] w fun e w' => ∃ p, e = .returned (.tuple #[.pointer (some ⟨p, 0, none⟩), .int .i64 0]) ∧ Fr w.heap.size [] w w' ∧ DP w.heap.size [] w' p (blank 325)) := (newF hF 325 (by omega) (by omega)).mono (fun e w' h => by obtain ⟨p, e, h1, h2, _⟩ := h; exact ⟨p, e, h1, h2⟩)
  obtain ⟨r1, r2, r3, r4⟩ := formatted_blank 325 (by omega)
  have HFM : Hid (∀ w' p, Fr w.heap.size [] w w' → DP w.heap.size [] w' p (blank 325) → Calls Tryd.prog 27 #[.pointer (some ⟨p, 0, none⟩)] w' fun e w'' => e = .returned (.int .i64 0) ∧ Fr w.heap.size [] w w'' ∧ DP w.heap.size [] w'' p (formatted (blank 325))) := fun w' p h1 h2 => format_ok h1 h2 (show 246 ≤ 325 by omega) rfl (show 0 + 2 ≤ _ by omega)
  have HO : Hid (∀ w' p, Fr w.heap.size [] w w' → DP w.heap.size [] w' p (formatted (blank 325)) → Calls Tryd.prog 23 #[.pointer (some ⟨p, 0, none⟩)] w' fun e w'' => ∃ j, e = .returned (.tuple #[.pointer (some ⟨j, 0, none⟩), .int .i64 0]) ∧ Fr w.heap.size [] w w'' ∧ ∃ d, JP w.heap.size [] w'' j p d [] false ∧ Rest d [] zs0 ∧ d.n = 325 ∧ d.cut = false ∧ d.ops ≤ 3) := fun w' p h1 h2 => (open_ok h1 h2 r1 (on_uncut r3) (by rw [r4]; omega)).mono (fun e w'' h => by
      obtain ⟨j, e, q1, q2, _⟩ := h
      exact ⟨j, e, q1, _, q2, ((Like.tick _).rest r1).flush, rfl, rfl, Nat.le_refl _⟩)
  clear hF ht w0 r1 r2 r3 r4
  go_enter Tryd.func5, Tryd.ntmps5
  go_wp2_with (first
    | (go_at_call 25; refine Calls.mono HN.out ?_; rintro e w2 ⟨dp, rfl, hF2, hD2⟩)
    | (go_at_call 27; refine (HFM.out _ _ hF2 hD2).mono ?_; rintro e w3 ⟨rfl, hF3, hD3⟩; clear hF2 hD2)
    | (go_at_call 23; refine (HO.out _ _ hF3 hD3).mono ?_; rintro e w5 ⟨j, rfl, hF5, d, hJ5, hR5, hn5, hc5, ho5⟩; clear hF3 hD3))
  have HF5 : Hid (Fr w.heap.size [] w w5) := hF5
  have HCM : Hid (∀ wr v gs, CB w5 wr v N fb1 gs → N ≤ 60 → Calls Tryd.prog 18 #[.pointer (some ⟨j, 0, none⟩), v] wr fun e w' => e = .returned (.int .i64 0) ∧ Fr w.heap.size [] w w' ∧ ∃ d' T', JP w.heap.size [] w' j dp d' T' false ∧ Rest d' T' (newS zs0 (hms N) (dts fb1 N)) ∧ d'.n = 325) := fun wr v gs h h60 => h.commit hF5 hJ5 hR5 hn5 (by omega) hc5 ho5 h60 (by omega)
  have HCO : Hid (∀ wr v gs, CB w5 wr v N fb1 gs → 60 < N → Calls Tryd.prog 18 #[.pointer (some ⟨j, 0, none⟩), v] wr fun e w' => e = .returned (.int .i64 2) ∧ Fr w.heap.size [] w w') := fun wr v gs h h60 => (h.over (w := w) hJ5 h60 (by omega) (by omega)).mono (fun e w' q => ⟨q.1, (hF5.below h.bel).below q.2⟩)
  clear hF5 hJ5 hR5 hn5 hc5 ho5 HN HFM HO HAW
  go_loopw [7, 8] (fun v i wr => ∃ k gs, k ≤ N ∧ i = .int .i64 ((k : Nat) : Int) ∧ CB w5 wr v k fb1 gs) (fun _ i _ => N - (intOf i).toNat)
  case atStart => exact ⟨0, [], by omega, rfl, CB.nil _ _⟩
  case round =>
    obtain ⟨k, gs, hk, rfl, hC⟩ := hrel
    by_cases hlt : k < N
    · have hltI : (k : Int) < (N : Int) := by omega
      have x1 : k + 1 ≤ maxLen := by unfold maxLen; omega
      have x2 : (k + 1) * 32 ≤ 140737488355328 := by omega
      have HO4 : Hid (∀ w3 g, Below wr.heap.size wr w3 → (w3.alloc (.cells #[.int .i64 (245 + (k : Int)), .slice (some ⟨g, 0, none⟩) 512 512] 49)).ownsRow w5.heap.size 49 2 u7 k (chv (hms k) gs)) := fun w3 g hb => (owns_below hC.own hb).alloc _
      have HNW : Hid (∀ (w3 : World) (g : Nat) (j : Nat) (u : Value), [Value.int .i64 (245 + (k : Int)), .slice (some ⟨g, 0, none⟩) 512 512][j]? = some u → (w3.alloc (.cells #[.int .i64 (245 + (k : Int)), .slice (some ⟨g, 0, none⟩) 512 512] 49)).cell? ((⟨w3.heap.size, 0, none⟩ : Addr).add j) = some u) := by
        intro w3 g j u hj
        rw [Addr.add_lit, cell_of_row _ _ _ _ _ _ (heap_alloc_new w3 _)]
        simpa using hj
      have HH1 : Hid (∀ (g : Nat), ∀ u ∈ [Value.int .i64 (245 + (k : Int)), .slice (some ⟨g, 0, none⟩) 512 512], u.oneCell' = true) := by intro g u hu; simp at hu; rcases hu with rfl | rfl <;> rfl
      have HX3 : Hid (∀ w3 g, Below wr.heap.size wr w3 → w5.heap.size ≤ (w3.alloc (.cells #[.int .i64 (245 + (k : Int)), .slice (some ⟨g, 0, none⟩) 512 512] 49)).heap.size) := fun w3 g hb => by
        have q1 := hC.bel.size
        have q2 := hb.size
        show _ ≤ (w3.heap.push _).size
        simp; omega
      have HC : Hid (CB w5 wr u7 k fb1 gs) := hC
      clear hC
      go_wp2_with (first
        | (go_at_call 22; refine (block_any _ _).mono ?_; rintro e w3 ⟨g, rfl, hg3, hge3, hb3⟩)
        | (at_builtin; refine wpList_append_own _ rfl _ _ 34 rfl w5.heap.size 49 i0 (.agg #[.int .i64 0, .slice none 0 0]) 2 32 Tryd.underlying34 hi hz0 hz1 hz2 rfl (by decide) u7 k (chv (hms k) gs) rfl (HO4.out w3 g hb3) ⟨w3.heap.size, 0, none⟩ 1 1 [Value.int .i64 (245 + (k : Int)), .slice (some ⟨g, 0, none⟩) 512 512] rfl rfl (HNW.out w3 g) (HH1.out g) x1 x2 (HX3.out w3 g hb3) ?_; intro v' w7 hown7 hg7 hnil7))
      exact ⟨⟨k + 1, gs ++ [g], by omega, by go_num, CB.step HC.out hb3 hg3 hge3 hg7 hown7⟩, by simp [intOf]; omega⟩
    · obtain rfl : k = N := by omega
      clear hi hz0 hz1 hz2
      by_cases h60 : k ≤ 60
      · have h60I : (k : Int) ≤ 60 := by omega
        have HC2 : Hid _ := HCM.out wr u7 gs hC h60
        have HCR : Hid (∀ w' d T, Fr w.heap.size [] w w' → JP w.heap.size [] w' j dp d T false → Rest d T (newS zs0 (hms k) (dts fb1 k)) → d.n = 325 → Calls Tryd.prog 29 #[.pointer (some ⟨dp, 0, none⟩), .slice none 0 0] w' fun e w'' => ∃ c, e = .returned (.pointer (some ⟨c, 0, none⟩)) ∧ Calls Tryd.prog 23 #[.pointer (some ⟨c, 0, none⟩)] w'' fun e w3 => ∃ j', e = .returned (.tuple #[.pointer (some ⟨j', 0, none⟩), .int .i64 0]) ∧ Fr w.heap.size [] w w3 ∧ ∃ d' T', JP w.heap.size [] w3 j' c d' T' false ∧ Rest d' T' (newS zs0 (hms k) (dts fb1 k)) ∧ d'.n = 325) := fun w' d T h1 h2 h3 h4 => by
          refine (crashF h1 h2.dev none [] 0 (RowI.nil _ _) (by simp)).mono ?_
          rintro e w'' ⟨c, rfl, g1, g2, _⟩
          obtain ⟨T', hR'⟩ := h3.crash []
          refine ⟨c, rfl, (open_ok g1 g2 hR' (on_uncut rfl) (Nat.lt_of_lt_of_le (show 0 < 1 by omega) (by omega))).mono ?_⟩
          rintro e w3 ⟨j', rfl, q1, q2, _⟩
          exact ⟨j', rfl, q1, _, T', q2, ((Like.tick _).rest hR').flush, h4⟩
        clear hC HCM HCO
        go_wp2_with (first
          | (go_at_call 18; refine Calls.mono HC2.out ?_; rintro e w6 ⟨rfl, hF6, d6, T6, hJ6, hR6, hn6⟩)
          | (go_at_call 29; refine (HCR.out w6 d6 T6 hF6 hJ6 hR6 hn6).mono ?_; rintro e w7 ⟨c, rfl, hOP⟩; clear hF6 hJ6 hR6 hn6)
          | (go_at_call 23; refine hOP.mono ?_; rintro e w8 ⟨j8, rfl, hF8, d8, T8, hJ8, hR8, hn8⟩; clear hOP))
        have HRD : Hid (∀ (w' : World) (x : Nat), Below w8.heap.size w8 w' → x < k → Calls Tryd.prog 26 #[.pointer (some ⟨j8, 0, none⟩), .int .i64 (245 + (x : Int))] w' fun e w'' => ∃ g, e = .returned (.tuple #[.slice (some ⟨g, 0, none⟩) 512 512, .int .i64 0]) ∧ Full w'' g 81 (bb ((x : Int) + 1)) ∧ Below w'.heap.size w' w'') := fun w' x hb hx => by
          have := readJ (hJ8.below hb) hR8 (245 + x) (by omega) (by omega)
          rw [newS_hms zs0 fb1 k x hx, show ((245 + x : Nat) : Int) = 245 + (x : Int) by omega] at this
          exact this.mono (fun e w'' h => by obtain ⟨g, e, a, _, b⟩ := h; exact ⟨g, e, a, b⟩)
        have HF8 : Hid (Fr w.heap.size [] w w8) := hF8
        clear hF8 hJ8 hR8 hn8 HC2 HCR
        go_loopw [12] (fun i wr => ∃ x, x ≤ k ∧ i = .int .i64 ((x : Nat) : Int) ∧ Below w8.heap.size w8 wr) (fun i _ => k - (intOf i).toNat)
        case atStart => exact ⟨0, by omega, rfl, Below.refl _ _⟩
        case round =>
          obtain ⟨x, hx, rfl, hb⟩ := hrel
          by_cases hlt : x < k
          · have hltI : (x : Int) < (k : Int) := by omega
            have HR2 : Hid _ := HRD.out _ x hb hlt
            go_wp2_with (first
              | (go_at_call 26; refine Calls.mono HR2.out ?_; rintro e w9 ⟨g9, rfl, hg9, hb9⟩)
              | (go_at_call 22; refine (block_any _ _).mono ?_; rintro e w10 ⟨g10, rfl, hg10, _, hb10⟩; have hg9' := hg9.below hb10)
              | (go_at_call 21; refine (bytesF hg9' hg10 (bb_len _) (bb_len _) (bb_lt _) (bb_lt _)).mono ?_; rintro e w11 ⟨rfl, hb11⟩; rw [decide_eq_true rfl]))
            have hb911 := (hb9.trans (hb10.mono hb9.size)).trans (hb11.mono (Nat.le_trans hb9.size hb10.size))
            exact ⟨⟨x + 1, by omega, by go_num, hb.trans (hb911.mono hb.size)⟩, by simp [intOf]; omega⟩
          · obtain rfl : x = k := by omega
            have hF9 := Fr.below HF8.out hb
            go_wp2_with (go_at_call 15; refine (awake_any hF9).mono ?_; rintro e w10 ⟨rfl, hF10⟩)
            go_ret
            exact ⟨rfl, hF10.bel⟩
      · have h60I : (60 : Int) < (k : Int) := by omega
        have HC2 : Hid _ := HCO.out wr u7 gs hC (by omega)
        clear hC HCM HCO
        go_wp2_with (first
          | (go_at_call 18; refine Calls.mono HC2.out ?_; rintro e w6 ⟨rfl, hF6⟩)
          | (go_at_call 15; refine (awake_any hF6).mono ?_; rintro e w7 ⟨rfl, hF7⟩))
        go_ret
        exact ⟨rfl, hF7.bel⟩
end Go.Proofs.YtmodjgailmpfmaaDoor
