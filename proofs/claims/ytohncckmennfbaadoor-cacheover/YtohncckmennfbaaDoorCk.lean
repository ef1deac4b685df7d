/- A cache with boxes beside it; CacheCounts' walk. -/
import Derived.Test.YtohncckmennfbaaDoorCo
namespace Go.Proofs.YtohncckmennfbaaDoor
set_option linter.unusedSimpArgs false
set_option linter.unusedVariables false
set_option maxRecDepth 100000
open Go.RowKit Go.MapKept Go.Proofs
/-- As CS, with blocks E beside it that a law writes itself. -/
structure BS (B : Nat) (w1 : World) (E : List Nat) (w : World) (c dp m : Nat) (V : Nat → List Nat) (X : Tx) : Prop where
  fr : Fr B [] w1 w
  ge : ∀ x ∈ E, B ≤ x ∧ x < w.heap.size
  cq : ∃ j d T, CP B E w c j dp d T false X ∧ Rest d T V ∧ d.n = 325 ∧ d.cut = false ∧ d.ops ≤ m
section
variable {B : Nat} {w1 w w' : World} {E : List Nat} {c dp m m' : Nat} {V V' : Nat → List Nat} {X X' : Tx}
theorem BS.cs (h : BS B w1 E w c dp m V X) : CS B E w w c dp m V X := ⟨Fr.start (fun x hx => (h.ge x hx).2) (Nat.le_trans h.fr.big h.fr.size) h.fr.pos h.fr.tab, h.cq⟩
theorem BS.after (h : BS B w1 E w c dp m V X) (g : CS B E w w' c dp m' V' X') : BS B w1 E w' c dp m' V' X' ∧ Same E w w' :=
  ⟨⟨h.fr.trans g.fr (by simp), fun x hx => ⟨(h.ge x hx).1, g.fr.ltw x hx⟩, g.cp⟩, g.fr.same⟩
theorem BS.below (h : BS B w1 E w c dp m V X) (hb : Below w.heap.size w w') : BS B w1 E w' c dp m V X ∧ Same E w w' := h.after (h.cs.below hb)
theorem BS.keeps {G : List Nat} (h : BS B w1 E w c dp m V X) (k : Keeps G w w') (hG : ∀ x ∈ G, x ∈ E) : BS B w1 E w' c dp m V X := by
  obtain ⟨hF, hge, j, d, T, h1, h2⟩ := h
  exact ⟨hF.keeps k (fun x hx => ⟨(hge x (hG x hx)).1, by simp⟩), fun x hx => ⟨(hge x hx).1, Nat.lt_of_lt_of_le (hge x hx).2 k.size⟩, j, d, T, h1.keepsE k hG, h2⟩
theorem BS.box {x : Nat} (h : BS B w1 E w c dp m V X) (hb : Below w.heap.size w w') (hx : w.heap.size ≤ x) (hlt : x < w'.heap.size) : BS B w1 (x :: E) w' c dp m V X := by
  obtain ⟨hF, hge, j, d, T, h1, h2⟩ := h
  refine ⟨hF.below hb, fun y hy => ?_, j, d, T, (h1.ext (fun y hy => ?_)).below hb, h2⟩
  · rcases List.mem_cons.1 hy with rfl | q
    · exact ⟨Nat.le_trans (Nat.le_trans hF.big hF.size) hx, hlt⟩
    · exact ⟨(hge y q).1, Nat.lt_of_lt_of_le (hge y q).2 hb.size⟩
  · rcases List.mem_cons.1 hy with rfl | q
    · exact .inr hx
    · exact .inl q
theorem BS.ext {E' : List Nat} (h : BS B w1 E w c dp m V X) (hE : ∀ x ∈ E', x ∈ E) : BS B w1 E' w c dp m V X := by
  obtain ⟨hF, hge, j, d, T, h1, h2⟩ := h
  exact ⟨hF, fun x hx => hge x (hE x hx), j, d, T, h1.ext (fun x hx => .inl (hE x hx)), h2⟩
theorem CS.bs (h : CS B [] w1 w c dp m V X) : BS B w1 [] w c dp m V X := ⟨h.fr, by simp, h.cp⟩
theorem BS.cs0 (h : BS B w1 E w c dp m V X) : CS B [] w1 w c dp m V X := ⟨h.fr, (h.ext (E' := []) (by simp)).cq⟩
theorem BS.few {hl : List Nat} {f : Nat → List Nat} (h : BS B w1 E w c dp m V (some (hl, f))) : hl.length ≤ 60 := by
  obtain ⟨_, _, j, d, T, h1, _⟩ := h
  obtain ⟨wb, _, _, hW⟩ := h1.cellsO
  exact hW.few
/-- Write into a home by its number. -/
theorem BS.write {hl : List Nat} {f : Nat → List Nat} (h : BS B w1 E w c dp m V (some (hl, f))) (K : Nat) (hK : K < 80) (hf : fullB hl (245 + K) = false) {g ty : Nat} {q : List Nat} (hg : Full w g ty q) (hq : q.length = 512) (hqb : ∀ i, q.getD i 0 < 256) :
    Calls Tryd.prog 13 #[.pointer (some ⟨c, 0, none⟩), .int .i64 (245 + (K : Int)), .slice (some ⟨g, 0, none⟩) 512 512] w fun e w' => e = .returned (.int .i64 0) ∧ BS B w1 E w' c dp m V (some (addK hl (245 + K), updK f (245 + K) q)) ∧ Same E w w' := by
  have := CS.write h.cs (245 + K) (by omega) (by omega) hf hg hq hqb
  rw [show ((245 + K : Nat) : Int) = 245 + (K : Int) by omega] at this
  refine this.mono ?_
  rintro e w' ⟨rfl, g⟩
  exact ⟨rfl, h.after g⟩
theorem BS.write_big {hl : List Nat} {f : Nat → List Nat} (h : BS B w1 E w c dp m V (some (hl, f))) (K : Nat) (hK : K < 80) (hf : fullB hl (245 + K) = true) (a : Option Addr) (cap : Nat) :
    Calls Tryd.prog 13 #[.pointer (some ⟨c, 0, none⟩), .int .i64 (245 + (K : Int)), .slice a 512 cap] w fun e w' => e = .returned (.int .i64 2) ∧ BS B w1 E w' c dp m V (some (hl, f)) ∧ Same E w w' := by
  have := CS.write_big h.cs (245 + K) (by omega) (by omega) hf a cap
  rw [show ((245 + K : Nat) : Int) = 245 + (K : Int) by omega] at this
  refine this.mono ?_
  rintro e w' ⟨rfl, g⟩
  exact ⟨rfl, h.after g⟩
theorem BS.commit {hl : List Nat} {f : Nat → List Nat} (h : BS B w1 E w c dp m V (some (hl, f))) (hm : m ≤ 900000) : Calls Tryd.prog 16 #[.pointer (some ⟨c, 0, none⟩)] w fun e w' => e = .returned (.int .i64 0) ∧ BS B w1 E w' c dp (m + 395) (txV V (some (hl, f))) none ∧ Same E w w' := by
  refine (CS.commit h.cs hm).mono ?_
  rintro e w' ⟨rfl, g⟩
  exact ⟨rfl, h.after g⟩
theorem BS.abort {hl : List Nat} {f : Nat → List Nat} (h : BS B w1 E w c dp m V (some (hl, f))) : Calls Tryd.prog 17 #[.pointer (some ⟨c, 0, none⟩)] w fun e w' => e = .returned (.int .i64 0) ∧ BS B w1 E w' c dp m V none ∧ Same E w w' := by
  refine (CS.abort h.cs).mono ?_
  rintro e w' ⟨rfl, g⟩
  exact ⟨rfl, h.after g⟩
theorem BS.dirtyO {hl : List Nat} {f : Nat → List Nat} (h : BS B w1 E w c dp m V (some (hl, f))) (n : Int) (hn : (hl.length : Int) = n) : Calls Tryd.prog 19 #[.pointer (some ⟨c, 0, none⟩)] w fun e w' => e = .returned (.int .i64 n) ∧ w' = w := by
  subst hn
  exact h.cs.dirty
theorem BS.dirtyN (h : BS B w1 E w c dp m V none) : Calls Tryd.prog 19 #[.pointer (some ⟨c, 0, none⟩)] w fun e w' => e = .returned (.int .i64 0) ∧ w' = w := h.cs.dirty
theorem BS.begin (h : BS B w1 E w c dp m V none) : Calls Tryd.prog 12 #[.pointer (some ⟨c, 0, none⟩)] w fun e w' => e = .returned (.int .i64 0) ∧ BS B w1 E w' c dp m V tx0 ∧ Same E w w' := by
  refine (CS.begin h.cs).mono ?_
  rintro e w' ⟨rfl, g⟩
  exact ⟨rfl, h.after g⟩
end
/-- Which of the eighty homes were met. -/
def mv80 (hl : List Nat) : Array Value := ((List.range 80).map fun k => Value.bool (decide (245 + k ∈ hl))).toArray
theorem mv80_get (hl : List Nat) (k : Nat) (h : k < 80) : (mv80 hl)[k]? = some (.bool (decide (245 + k ∈ hl))) := by simp [mv80, h]
theorem mv80_set (hl : List Nat) (K : Nat) (hK : K < 80) : (mv80 hl).setIfInBounds K (.bool true) = mv80 (hl ++ [245 + K]) := by
  apply Array.ext_getElem?
  intro i
  rw [Array.getElem?_setIfInBounds]
  by_cases hi : i < 80
  · rw [mv80_get _ _ hi, mv80_get _ _ hi]
    by_cases e : K = i
    · subst e; simp [mv80, hK]
    · rw [if_neg e]
      have : (245 + i ∈ hl ++ [245 + K]) = (245 + i ∈ hl) := by simp; omega
      simp only [this]
  · have h1 : (mv80 hl)[i]? = none := by simp [mv80]; omega
    have h2 : (mv80 (hl ++ [245 + K]))[i]? = none := by simp [mv80]; omega
    rw [h1, h2]
    have : K ≠ i := by omega
    rw [if_neg this]
theorem z58 : Tryd.zeroCells58 = mv80 [] := by kernel_rfl
set_option maxHeartbeats 1000000 in
theorem cacheCounts_walk (a0 : Option Addr) (cap0 : Nat) (l0 : List Int) (w : World) (ht : Tab w) (w0 : RowI w a0 l0) (m0 : l0.length ≤ maxLen) :
    Calls Tryd.prog 8 #[.slice a0 l0.length cap0] w fun e w' => e = .returned (.bool true) ∧ Below w.heap.size w w' := by
  have hF := Fr.law ht
  have HF : Hid _ := fresh_any hF
  unfold maxLen at m0
  have m0I : (l0.length : Int) ≤ 9223372036854775807 := by omega
  by_cases hbig : 100 < l0.length
  · have hbI : (100 : Int) < (l0.length : Int) := by omega
    clear HF ht w0
    go_enter Tryd.func8, Tryd.ntmps8
    go_wp2_with (go_at_call 9; refine (awake_any hF).mono ?_; rintro e w4 ⟨rfl, hF4⟩)
    go_ret
    exact ⟨rfl, hF4.bel⟩
  · have hbI : ¬ (100 : Int) < (l0.length : Int) := by omega
    have h100 : (l0.length : Int) ≤ 100 := by omega
    have HW0 : Hid (RowI w a0 l0) := w0
    clear ht hF w0
    go_enter Tryd.func8, Tryd.ntmps8
    go_wp2_with (first
      | (go_at_call 10; refine Calls.mono HF.out ?_; rintro e w2 ⟨dp, c, rfl, hS2⟩)
      | (go_at_call 19; refine hS2.dirty.mono ?_; rintro e w3 ⟨rfl, hw⟩; subst w3)
      | (go_at_call 12; refine (CS.begin hS2).mono ?_; rintro e w3 ⟨rfl, hS3⟩; clear hS2))
    have b4 : Below w3.heap.size w3 (w3.alloc (.cells Tryd.zeroCells58 58)) := (Below.refl _ _).alloc (Nat.le_refl _) _
    have e4 := heap_alloc_new w3 (.cells Tryd.zeroCells58 58)
    have hB4 := hS3.bs.box b4 (Nat.le_refl _) (by show _ < (w3.heap.push _).size; simp)
    rw [z58] at e4
    have HB4 : Hid _ := hB4
    have HE4 : Hid _ := e4
    clear hB4 e4 b4 hS3 HF
    go_loopw [7, 8] (fun n i wr => ∃ k hl f, k ≤ l0.length ∧ i = .int .i64 ((k : Nat) : Int) ∧ n = .int .i64 ((hl.length : Nat) : Int) ∧ BS w.heap.size w [w3.heap.size] wr c dp 3 zs0 (some (hl, f)) ∧ wr.heap[w3.heap.size]? = some (.cells (mv80 hl) 58 (0, 0))) (fun _ i _ => l0.length - (intOf i).toNat)
    case atStart => exact ⟨0, [], fun _ => zeros, by omega, rfl, rfl, HB4.out, by rw [z58]; exact HE4.out⟩
    case round =>
      clear HB4 HE4
      obtain ⟨k, hl, f, hk, rfl, rfl, hS, hM⟩ := hrel
      have h60 := hS.few
      have h60I : (hl.length : Int) ≤ 60 := by omega
      by_cases hlt : k < l0.length
      · have hltI : (k : Int) < (l0.length : Int) := by omega
        obtain ⟨bb0, off, rfl, hcell, r3⟩ := (HW0.out.below hS.fr.bel) k hlt
        generalize l0.getD k 0 = Bz at *
        have HR1 : Hid (∀ w', Calls Tryd.prog 11 #[.int .i64 Bz, .int .i64 80] w' fun e w'' => e = .returned (.int .i64 ((rd Bz 80 : Nat) : Int)) ∧ w'' = w') := fun w' => round_any Bz 80 w' r3.1 r3.2 (by omega) (by omega)
        have hK := rd_lt Bz 80 (by omega)
        generalize rd Bz 80 = K at *
        have hKI : (K : Int) < 80 := by omega
        by_cases hin : 245 + K ∈ hl
        · have hfull : fullB hl (245 + K) = false := by simp [fullB, hin]
          have hadd : addK hl (245 + K) = hl := by simp [addK, hin]
          have HPOST : Hid (∀ w5, Same [w3.heap.size] wr w5 → w5.heap[w3.heap.size]? = some (.cells (mv80 hl) 58 (0, 0)) ∧ w5.cell? ⟨w3.heap.size, K, none⟩ = some (.bool true)) := fun w5 hs => by
            have h5 := (hs w3.heap.size (by simp)).trans hM
            refine ⟨h5, ?_⟩
            rw [cell_of_row _ _ _ _ _ _ h5, mv80_get _ _ hK, decide_eq_true hin]
          clear hin hM
          go_wp2_with (first
            | (go_at_call 11; refine (HR1.out _).mono ?_; rintro e w' ⟨rfl, hw⟩; subst w')
            | (go_at_call 14; refine (block_any _ _).mono ?_; rintro e w4 ⟨g, rfl, hg4, hge4, hb4⟩; obtain ⟨hS4, hs4⟩ := hS.below hb4)
            | (go_at_call 13; refine (hS4.write K hK hfull hg4 (bb_len _) (bb_lt _)).mono ?_; rintro e w5 ⟨rfl, hS5, hs5⟩; rw [hadd] at hS5; obtain ⟨p1, p2⟩ := HPOST.out w5 (fun x hx => (hs5 x hx).trans (hs4 x hx)))
            | (go_at_call 19; refine (hS5.dirtyO _ rfl).mono ?_; rintro e w6 ⟨rfl, hw⟩; subst w6))
          exact ⟨⟨k + 1, hl, _, by omega, by go_num, rfl, hS5, p1⟩, by simp [intOf]; omega⟩
        · by_cases h6 : hl.length = 60
          · have hfull : fullB hl (245 + K) = true := by simp [fullB, hin, h6]
            have h6I : (hl.length : Int) = 60 := by omega
            have HPOST : Hid (∀ w5, Same [w3.heap.size] wr w5 → w5.heap[w3.heap.size]? = some (.cells (mv80 hl) 58 (0, 0)) ∧ w5.cell? ⟨w3.heap.size, K, none⟩ = some (.bool false)) := fun w5 hs => by
              have h5 := (hs w3.heap.size (by simp)).trans hM
              refine ⟨h5, ?_⟩
              rw [cell_of_row _ _ _ _ _ _ h5, mv80_get _ _ hK, decide_eq_false hin]
            have H6 : Hid ((hl.length : Int) = 60) := h6I
            clear hin hM h6
            go_wp2_with (first
              | (go_at_call 11; refine (HR1.out _).mono ?_; rintro e w' ⟨rfl, hw⟩; subst w')
              | (go_at_call 14; refine (block_any _ _).mono ?_; rintro e w4 ⟨g, rfl, hg4, hge4, hb4⟩; obtain ⟨hS4, hs4⟩ := hS.below hb4)
              | (go_at_call 13; refine (hS4.write_big K hK hfull _ _).mono ?_; rintro e w5 ⟨rfl, hS5, hs5⟩; obtain ⟨p1, p2⟩ := HPOST.out w5 (fun x hx => (hs5 x hx).trans (hs4 x hx)))
              | (go_at_call 19; refine (hS5.dirtyO 60 H6.out).mono ?_; rintro e w6 ⟨rfl, hw⟩; subst w6))
            exact ⟨⟨k + 1, hl, _, by omega, by go_num, by rw [H6.out], hS5, p1⟩, by simp [intOf]; omega⟩
          · have hfull : fullB hl (245 + K) = false := by simp [fullB, hin, h6]
            have hadd : addK hl (245 + K) = hl ++ [245 + K] := by simp [addK, hin]
            have h6I : (hl.length : Int) < 60 := by omega
            have HPOST : Hid (∀ w5, Same [w3.heap.size] wr w5 → w5.heap[w3.heap.size]? = some (.cells (mv80 hl) 58 (0, 0)) ∧ w5.cell? ⟨w3.heap.size, K, none⟩ = some (.bool false) ∧ w5.frozen? ⟨w3.heap.size, K, none⟩ = false) := fun w5 hs => by
              have h5 := (hs w3.heap.size (by simp)).trans hM
              refine ⟨h5, ?_, frozen_of_row _ _ _ _ _ h5⟩
              rw [cell_of_row _ _ _ _ _ _ h5, mv80_get _ _ hK, decide_eq_false hin]
            have HSET : Hid (∀ w5 f', BS w.heap.size w [w3.heap.size] w5 c dp 3 zs0 (some (hl ++ [245 + K], f')) → w5.heap[w3.heap.size]? = some (.cells (mv80 hl) 58 (0, 0)) → BS w.heap.size w [w3.heap.size] (w5.setCell ⟨w3.heap.size, K, none⟩ (.bool true)) c dp 3 zs0 (some (hl ++ [245 + K], f')) ∧ (w5.setCell ⟨w3.heap.size, K, none⟩ (.bool true)).heap[w3.heap.size]? = some (.cells (mv80 (hl ++ [245 + K])) 58 (0, 0))) := fun w5 f' h1 h2 => by
              refine ⟨h1.keeps ((Keeps.refl [w3.heap.size] _).setCell _ _ (by simp)) (fun x hx => hx), ?_⟩
              rw [heap_setCell_same _ _ _ _ _ _ h2, mv80_set _ _ hK]
            have hlen1 : (hl ++ [245 + K]).length = hl.length + 1 := by simp
            have hlenI : ((hl ++ [245 + K]).length : Int) = (hl.length : Int) + 1 := by rw [hlen1]; omega
            have HLI : Hid _ := hlenI
            have HL1 : Hid _ := hlen1
            clear hin hM h6 hlen1 hlenI
            go_wp2_with (first
              | (go_at_call 11; refine (HR1.out _).mono ?_; rintro e w' ⟨rfl, hw⟩; subst w')
              | (go_at_call 14; refine (block_any _ _).mono ?_; rintro e w4 ⟨g, rfl, hg4, hge4, hb4⟩; obtain ⟨hS4, hs4⟩ := hS.below hb4)
              | (go_at_call 13; refine (hS4.write K hK hfull hg4 (bb_len _) (bb_lt _)).mono ?_; rintro e w5 ⟨rfl, hS5, hs5⟩; rw [hadd] at hS5; obtain ⟨p1, p2, p3⟩ := HPOST.out w5 (fun x hx => (hs5 x hx).trans (hs4 x hx)); obtain ⟨q1, q2⟩ := HSET.out w5 _ hS5 p1)
              | (go_at_call 19; refine (q1.dirtyO _ HLI.out).mono ?_; rintro e w6 ⟨rfl, hw⟩; subst w6))
            exact ⟨⟨k + 1, hl ++ [245 + K], _, by omega, by go_num, by rw [HL1.out]; go_num, q1, q2⟩, by simp [intOf]; omega⟩
      · obtain rfl : k = l0.length := by omega
        go_wp2_with (first
          | (go_at_call 16; refine (hS.commit (by omega)).mono ?_; rintro e w5 ⟨rfl, hS5, _⟩)
          | (go_at_call 19; refine hS5.dirtyN.mono ?_; rintro e w6 ⟨rfl, hw⟩; subst w6)
          | (go_at_call 18; refine hS5.cs.openC.mono ?_; rintro e w6 ⟨rfl, hw⟩; subst w6)
          | (go_at_call 9; refine (awake_any hS5.fr).mono ?_; rintro e w17 ⟨rfl, hF17⟩))
        go_ret
        exact ⟨rfl, hF17.bel⟩
end Go.Proofs.YtohncckmennfbaaDoor
