/- awake: what the document fixes. -/
import Derived.Test.YtmodjgailmpfmaaDoorLf
namespace Go.Proofs.YtmodjgailmpfmaaDoor
set_option linter.unusedSimpArgs false
set_option linter.unusedVariables false
open Go.RowKit Go.MapKept Go.Proofs
/-- Commit, where the changes lie in blocks Ex of their own. -/
def CommitPost (B : Nat) (E Ex : List Nat) (w1 w : World) (j dp : Nat) (d : Dv) (s t : Nat → List Nat) : Ending → World → Prop :=
  Ans (fun w' => Fr B E w1 w' ∧ Fr B (Ex ++ E) w w' ∧ ∃ d' T', JP B (Ex ++ E) w' j dp d' T' false ∧ Rest d' T' t ∧ Next d d' (d.n + 70)) (fun w' => Fr B E w1 w' ∧ Fr B (Ex ++ E) w w' ∧ ∃ d' T', JP B (Ex ++ E) w' j dp d' T' true ∧ Safe d' s t ∧ Next d d' (d.n + 70) ∧ d'.cut = true)
theorem commitF {B : Nat} {E Ex : List Nat} {w1 w : World} {j dp lk cap : Nat} {d : Dv} {T : List (List Nat)} {s : Nat → List Nat} {hl gs : List Nat} {cs : List (List Nat)} (hF : Fr B E w1 w) (hEx : ∀ x ∈ Ex, x < w.heap.size) (hJ : JP B (Ex ++ E) w j dp d T false) (hR : Rest d T s) (hch : Chs (Ex ++ E) w d.n lk hl gs cs) (ho : d.ops + (d.n + 70) ≤ 1000000) :
    Calls Tryd.prog 18 #[.pointer (some ⟨j, 0, none⟩), .slice (some ⟨lk, 0, none⟩) hl.length cap] w (CommitPost B E Ex w1 w j dp d s (newS s hl cs)) := by
  have hF2 : Fr B (Ex ++ E) w w := Fr.start (fun x hx => by rcases List.mem_append.1 hx with q | q; exact hEx x q; exact hF.ltw x q) (Nat.le_trans hF.big hF.size) hF.pos hF.tab
  refine (commit_ok hF2 hJ hR hch ho).mono ?_
  intro e w' h
  exact h.mono (fun ⟨a, b⟩ => ⟨hF.trans a (fun x hx => by simp [hx]), a, b⟩) (fun ⟨a, b⟩ => ⟨hF.trans a (fun x hx => by simp [hx]), a, b⟩)
/-- One change. -/
theorem one_chs {E : List Nat} {w : World} {n k g : Nat} {c : List Nat} (hg : Full w g 5 c) (hc : c.length = 512) (hlt : ∀ x, c.getD x 0 < 256) (hk : 245 ≤ k ∧ k < n) :
    Chs (w.heap.size :: g :: E) (w.alloc (.cells #[.int .i64 (k : Int), .slice (some ⟨g, 0, none⟩) 512 512] 49)) n w.heap.size [k] [g] [c] := by
  have e := heap_alloc_new w (.cells #[.int .i64 (k : Int), .slice (some ⟨g, 0, none⟩) 512 512] 49)
  have b : Below w.heap.size w (w.alloc (.cells #[.int .i64 (k : Int), .slice (some ⟨g, 0, none⟩) 512 512] 49)) := (Below.refl _ _).alloc (Nat.le_refl _) _
  refine ⟨⟨rfl, fun i hi => ?_⟩, rfl, fun i hi => ?_, by simp, by simp, by simp, by simp, fun x hx => by simp at hx; subst hx; exact hk⟩
  · obtain rfl : i = 0 := by simp at hi; omega
    refine ⟨?_, ?_, _, _, _, rfl⟩ <;> rw [cell_of_row _ _ _ _ _ _ e] <;> rfl
  · obtain rfl : i = 0 := by simp at hi; omega
    exact ⟨hg.below b, by simp, hc, hlt⟩
theorem newS_one (s : Nat → List Nat) (k : Nat) (c : List Nat) : newS s [k] [c] k = c := by simp [newS]
theorem rest_read {d : Dv} {T : List (List Nat)} {s : Nat → List Nat} (h : Rest d T s) {k : Nat} (h1 : 245 ≤ k) (h2 : k < d.n) : d.cur (find T k) = s k := by rw [cur_none (h.none _)]; exact (h.ph.view k h1 h2).1
/-- Read of a journal at rest. -/
theorem readJ {B : Nat} {E : List Nat} {w : World} {j dp : Nat} {d : Dv} {T : List (List Nat)} {off : Bool} {s : Nat → List Nat} (hJ : JP B E w j dp d T off) (hR : Rest d T s) (k : Nat) (h1 : 245 ≤ k) (h2 : k < d.n) :
    Calls Tryd.prog 26 #[.pointer (some ⟨j, 0, none⟩), .int .i64 (k : Int)] w fun e w' => ∃ g, e = .returned (.tuple #[.slice (some ⟨g, 0, none⟩) 512 512, .int .i64 0]) ∧ Full w' g 81 (s k) ∧ w.heap.size ≤ g ∧ Below w.heap.size w w' := by
  obtain ⟨FP, hJo, _⟩ := hJ
  have := jread_ok hJo k ⟨h1, h2⟩ (find_lt hR.ph.good hR.ph.n246 h1 h2).1
  rw [rest_read hR h1 h2] at this
  exact this
theorem Rest.slt {d : Dv} {T : List (List Nat)} {s : Nat → List Nat} (hR : Rest d T s) (ho : d.Ok) {k : Nat} (h1 : 245 ≤ k) (h2 : k < d.n) : (s k).length = 512 ∧ ∀ i, (s k).getD i 0 < 256 := by
  rw [← rest_read hR h1 h2]; exact ho.cur _
/-- Two blocks, held against each other. -/
theorem bytesF {w : World} {g1 g2 t1 t2 : Nat} {l m : List Nat} (h1 : Full w g1 t1 l) (h2 : Full w g2 t2 m) (hl : l.length = 512) (hm : m.length = 512) (b1 : ∀ i, l.getD i 0 < 256) (b2 : ∀ i, m.getD i 0 < 256) :
    Calls Tryd.prog 21 #[.slice (some ⟨g1, 0, none⟩) 512 512, .slice (some ⟨g2, 0, none⟩) 512 512] w fun e w' => e = .returned (.bool (decide (l = m))) ∧ Below w.heap.size w w' := by
  have := bytes_any (some ⟨g1, 0, none⟩) 512 l (some ⟨g2, 0, none⟩) 512 m w (h1.row b1) (h2.row b2) (by rw [hl]; decide) (by rw [hm]; decide)
  rw [hl, hm] at this
  refine this.mono ?_
  rintro e w' ⟨rfl, n, rfl⟩
  exact ⟨rfl, ⟨rfl, rfl, rfl, Nat.le_refl _, fun _ _ => rfl⟩⟩
theorem Dev.same {w w' : World} {p : Nat} {F : List Nat} {d : Dv} (h : Dev w p F d) (e : ∀ x ∈ F, w'.heap[x]? = w.heap[x]?) : Dev w' p F d := by
  obtain ⟨fb, pb, tb, rfl, h⟩ := h; exact ⟨fb, pb, tb, rfl, h.blk e⟩
/-- Crash and Open of what is left, while the old device stays as it is. -/
theorem crashG {B : Nat} {E F : List Nat} {w1 w : World} {dp : Nat} {d : Dv} (hF : Fr B E w1 w) (hd : Dev w dp F d) (a : Option Addr) (l : List Int) (cap : Nat) (hl : RowI w a l) (hll : l.length ≤ 9223372036854775807) :
    Calls Tryd.prog 29 #[.pointer (some ⟨dp, 0, none⟩), .slice a l.length cap] w fun e w' => ∃ c, e = .returned (.pointer (some ⟨c, 0, none⟩)) ∧ Fr B E w1 w' ∧ DP B E w' c (d.crash l) ∧ Below w.heap.size w w' := by
  refine (crashD hd a l cap hl hll).mono ?_
  rintro e w' ⟨c, F', rfl, hd', hF', hb⟩
  have hB := hF.big
  have hs := hF.size
  exact ⟨c, rfl, hF.below hb, ⟨F', hd', fun x hx => ⟨by have := hF' x hx; omega, fun q => by have := hF.ltw x q; have := hF' x hx; omega⟩⟩, hb⟩
/-- A frame that holds a device too. -/
theorem Fr.with {B : Nat} {E F : List Nat} {w1 w : World} {dp : Nat} {d : Dv} (hF : Fr B E w1 w) (hd : Dev w dp F d) : Fr B (F ++ E) w w :=
  Fr.start (fun x hx => by rcases List.mem_append.1 hx with q | q; exact hd.lt x q; exact hF.ltw x q) (Nat.le_trans hF.big hF.size) hF.pos hF.tab
theorem mag_str : strOfNums (ni mag) = ⟨#[66, 79, 76, 76, 65, 82, 68, 74]⟩ := by decide +kernel
set_option maxRecDepth 100000 in
set_option maxHeartbeats 1000000 in
theorem awake_any {B : Nat} {E : List Nat} {w1 w : World} (hF : Fr B E w1 w) : Calls Tryd.prog 15 #[] w fun e w' => e = .returned (.bool true) ∧ Fr B E w1 w' := by
  have HF : Hid _ := fresh_any hF
  have HCM : Hid (∀ w2 g dp j d, Fr B E w1 w2 → JP B E w2 j dp d [] false → Rest d [] zs0 → d.n = 275 → d.ops ≤ 3 → d.cut = false → ∀ w3, Below w2.heap.size w2 w3 → Full w3 g 5 (bb 5) → w2.heap.size ≤ g → Calls Tryd.prog 18 #[.pointer (some ⟨j, 0, none⟩), .slice (some ⟨w3.heap.size, 0, none⟩) 1 1] (w3.alloc (.cells #[.int .i64 250, .slice (some ⟨g, 0, none⟩) 512 512] 49)) fun e w' =>
      e = .returned (.int .i64 0) ∧ Fr B E w1 w' ∧ ∃ d' T', JP B E w' j dp d' T' false ∧ Rest d' T' (newS zs0 [250] [bb 5]) ∧ d'.n = 275) := by
    intro w2 g dp j d hF2 hJ2 hR2 hn hops hcut w3 hb3 hg hge
    have b4 : Below w3.heap.size w3 (w3.alloc (.cells #[.int .i64 250, .slice (some ⟨g, 0, none⟩) 512 512] 49)) := (Below.refl _ _).alloc (Nat.le_refl _) _
    have hb4 := hb3.trans (b4.mono hb3.size)
    have hlt : w3.heap.size < (w3.alloc (.cells #[.int .i64 250, .slice (some ⟨g, 0, none⟩) 512 512] 49)).heap.size := by show _ < (w3.heap.push _).size; simp
    have hch : Chs ([w3.heap.size, g] ++ E) (w3.alloc (.cells #[.int .i64 250, .slice (some ⟨g, 0, none⟩) 512 512] 49)) d.n w3.heap.size [250] [g] [bb 5] := one_chs (k := 250) hg (bb_len 5) (bb_lt 5) (by rw [hn]; omega)
    have hz := hb3.size
    refine (commitF (Ex := [w3.heap.size, g]) (hF2.below hb4) (fun x hx => ?_) ((hJ2.ext (E' := [w3.heap.size, g] ++ E) (fun x hx => ?_)).below hb4) hR2 hch (by omega)).mono ?_
    · simp at hx; rcases hx with rfl | rfl
      · exact hlt
      · have := hg.lt; omega
    · simp at hx; rcases hx with rfl | rfl | hx
      · exact .inr hz
      · exact .inr hge
      · exact .inl hx
    · rintro e w' ⟨c, rfl, hc⟩
      rcases hc with ⟨rfl, a, b, d', T', h1, h2, h3⟩ | ⟨_, _, _, d', T', _, _, h3, h4⟩
      · exact ⟨rfl, a, d', T', h1.ext (fun x hx => .inl (by simp [hx])), h2, by rw [h3.n, hn]⟩
      · rw [h3.cut, hcut] at h4; cases h4
  have HCR : Hid (∀ w' dp F d, Fr B E w1 w' → Dev w' dp F d → Calls Tryd.prog 29 #[.pointer (some ⟨dp, 0, none⟩), .slice none 0 0] w' fun e w'' => ∃ c, e = .returned (.pointer (some ⟨c, 0, none⟩)) ∧ Fr B (F ++ E) w' w'' ∧ DP B (F ++ E) w'' c (d.crash []) ∧ Below w'.heap.size w' w'') := fun w' dp F d h1 h2 => crashG (h1.with h2) h2 none [] 0 (RowI.nil _ _) (by simp)
  have HST : Hid (∀ (w' : World) g T, Full w' g 81 (tabL T) → (convert 40 9 (.slice (some ⟨g, 0, none⟩) 8 512)).run Tryd.prog w' = .ok (.string ⟨#[66, 79, 76, 76, 65, 82, 68, 74]⟩) w') := fun w' g T hf => by
    have hr := hf.row (tabL_lt T)
    rw [← List.take_append_drop 8 (tabL T)] at hr
    have := conv_row (cap := 512) (row_front hr) (n := 8) (by rw [tabL_take8]; rfl)
    rw [tabL_take8, mag_str] at this
    exact this
  clear hF
  go_enter Tryd.func15, Tryd.ntmps15
  go_wp2_with (first
    | (go_at_call 16; refine Calls.mono HF.out ?_; rintro e w2 ⟨dp, j, d, rfl, hF2, hJ2, hR2, hn2, hc2, ho2⟩; have tok1 : True := trivial)
    | (go_at_call 22; have _t := tok1; refine (block_any 5 _).mono ?_; rintro e w3 ⟨g, rfl, hg3, hge3, hb3⟩; clear tok1 _t)
    | (go_at_call 18; refine (HCM.out w2 g dp j d hF2 hJ2 hR2 hn2 ho2 hc2 w3 hb3 hg3 hge3).mono ?_; rintro e w5 ⟨rfl, hF5, d', T', hJ5, hR5, hn5⟩)
    | (go_at_call 29; obtain ⟨F5, hd5, hFP5⟩ := hJ5.dev; refine (HCR.out _ _ _ _ hF5 hd5).mono ?_; rintro e w6 ⟨c, rfl, hF6, hD6, hb6⟩; obtain ⟨T6, hR6⟩ := hR5.crash []; have hz5 : d'.cur 0 = tabL T' := ((cur_none (hR5.none 0)).trans hR5.ph.tab))
    | (go_at_call 23; refine (open_ok hF6 hD6 hR6 (on_uncut rfl) (Nat.lt_of_lt_of_le (show 0 < 1 by omega) (by omega))).mono ?_; rintro e w7 ⟨k, rfl, hF7, hJ7, _⟩; have hd7 := hd5.same (fun x hx => hF7.same x (List.mem_append.2 (.inl hx))))
    | (go_at_call 26; refine (readJ hJ7 (((Like.tick _).rest hR6).flush) 250 (by omega) (by show 250 < d'.n; omega)).mono ?_; rintro e w8 ⟨g8, rfl, hg8, _, hb8⟩; rw [newS_one] at hg8)
    | (go_at_call 20; refine (readD (hd7.below hb8) 0 (by omega)).mono ?_; rintro e w9 ⟨g9, rfl, hg9, _, hb9⟩; rw [hz5] at hg9; have hg8' := hg8.below hb9)
    | (go_at_call 22; refine (block_any 5 _).mono ?_; rintro e w10 ⟨g10, rfl, hg10, _, hb10⟩; have hg8'' := hg8'.below hb10; have hg9' := hg9.below hb10)
    | (go_at_call 21; refine (bytesF hg8'' hg10 (bb_len 5) (bb_len 5) (bb_lt 5) (bb_lt 5)).mono ?_; rintro e w11 ⟨rfl, hb11⟩; rw [decide_eq_true rfl]; have hst := HST.out w11 g9 T' (hg9'.below hb11)))
  go_ret
  exact ⟨rfl, ((((hF5.trans hF7 (fun x hx => List.mem_append.2 (.inr hx))).below hb8).below hb9).below hb10).below hb11⟩
end Go.Proofs.YtmodjgailmpfmaaDoor
