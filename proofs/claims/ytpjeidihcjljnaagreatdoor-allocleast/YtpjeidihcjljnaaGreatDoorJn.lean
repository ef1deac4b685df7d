/- HasPrefix; Open. -/
import Derived.Test.YtpjeidihcjljnaaGreatDoorJl
import Derived.Lib.Bytes
namespace Go.Proofs.YtpjeidihcjljnaaGreatDoor
set_option linter.unusedSimpArgs false
set_option linter.unusedVariables false
open Go.RowKit Go.MapKept Go.Proofs
def ni (l : List Nat) : List Int := l.map fun (c : Nat) => (c : Int)
theorem conv_row {w : World} {g cap n : Nat} {l : List Nat} (h : Row w (some ⟨g, 0, none⟩) l) (hn : l.length = n) : (convert 65 9 (.slice (some ⟨g, 0, none⟩) n cap)).run Tryz.prog w = .ok (.string (strOfNums (ni l))) w := by
  refine run_convert_bytes_arg w 65 5 Tryz.underlying65 Tryz.underlying5 g 0 n cap (ni l) (by simp [ni, hn]) (fun i hi => ?_) 9 Tryz.underlying9
  obtain ⟨b, off, e, hc, _⟩ := h i (by omega)
  injection e with e
  injection e with e1 e2
  subst e1; subst e2
  rw [hc]
  have hi' : i < l.length := by omega
  simp [ni, List.getD, hi']
theorem equal_any {w : World} {g b c1 c2 : Nat} {l m : List Nat} (h1 : Row w (some ⟨g, 0, none⟩) l) (h2 : Row w (some ⟨b, 0, none⟩) m) (hl : l.length = 8) (hm : m.length = 8) (R : Bool) (hR : ((strOfNums (ni l)).toList == (strOfNums (ni m)).toList) = R) :
    Calls Tryz.prog 50 #[.slice (some ⟨g, 0, none⟩) 8 c1, .slice (some ⟨b, 0, none⟩) 8 c2] w fun e w' => e = .returned (.bool R) ∧ w' = w := by
  have k1 := conv_row (cap := c1) h1 hl
  have k2 := conv_row (cap := c2) h2 hm
  generalize strOfNums (ni l) = X at *
  generalize strOfNums (ni m) = Y at *
  go_enter Tryz.func50, Tryz.ntmps50
  go_wp2
  go_ret
  exact ⟨rfl, rfl⟩
theorem prefix_any {w : World} {g b cap : Nat} {l : List Nat} (h1 : Row w (some ⟨g, 0, none⟩) l) (h2 : Row w (some ⟨b, 0, none⟩) mag) (hl : l.length = 512) (hc : 512 ≤ cap) (R : Bool) (hR : ((strOfNums (ni (l.take 8))).toList == (strOfNums (ni mag)).toList) = R) :
    Calls Tryz.prog 30 #[.slice (some ⟨g, 0, none⟩) 512 cap, .slice (some ⟨b, 0, none⟩) 8 8] w fun e w' => e = .returned (.bool R) ∧ w' = w := by
  have ht : Row w (some ⟨g, 0, none⟩) (l.take 8) := by
    have := h1
    rw [← List.take_append_drop 8 l] at this
    exact row_front this
  have hE := fun c1 => equal_any (c1 := c1) (c2 := 8) ht h2 (by rw [List.length_take, hl]; rfl) rfl R hR
  have HE : Hid _ := hE
  have hcI : (512 : Int) ≤ (cap : Int) := by omega
  clear hE
  go_enter Tryz.func30, Tryz.ntmps30
  go_wp2_with (go_at_call 50; refine (HE.out _).mono ?_; rintro e w1 ⟨rfl, hw⟩; subst w1)
  go_ret
  exact ⟨rfl, rfl⟩
theorem tabL_take8 (T : List (List Nat)) : (tabL T).take 8 = mag := by
  apply list_ext (by rw [List.length_take, tabL_len]; rfl)
  intro i hi
  have hi8 : i < 8 := by rw [List.length_take, tabL_len] at hi; omega
  have e : ((tabL T).take 8).getD i 0 = (tabL T).getD i 0 := by simp [List.getD, List.getElem?_take, hi8]
  rw [e, show (tabL T).getD i 0 = bodyB (hm T) i from tabN_low _ i (by omega)]
  unfold bodyB
  rw [if_pos hi8]
theorem pre_yes (T : List (List Nat)) : ((strOfNums (ni ((tabL T).take 8))).toList == (strOfNums (ni mag)).toList) = true := by rw [tabL_take8]; exact beq_self_eq_true _
theorem pre_no : ((strOfNums (ni (zeros.take 8))).toList == (strOfNums (ni mag)).toList) = false := by rw [Lib.strOfNums_toList, Lib.strOfNums_toList]; decide +kernel
theorem zeros_lt : ∀ i, zeros.getD i 0 < 256 := by intro i; unfold zeros; rw [getD_rep]; omega
theorem open_small {w : World} {dp : Nat} {F : List Nat} {d : Dv} (h : Dev w dp F d) (hn : d.n < 246) : Calls Tryz.prog 12 #[.pointer (some ⟨dp, 0, none⟩)] w fun e w' => e = .returned (.tuple #[.pointer none, .int .i64 1]) ∧ w' = w := by
  have hd : decide (d.n < 246) = true := decide_eq_true hn
  go_enter Tryz.func12, Tryz.ntmps12
  go_wp2_with (go_at_call 26; refine (jsmall_any h).mono ?_; rintro e w1 ⟨rfl, hw⟩; subst w1; rw [hd])
  go_ret2
  exact ⟨rfl, rfl⟩
theorem row_mark (w : World) (l : List Nat) (fr : Nat × Nat) (h : ∀ i, l.getD i 0 < 256) : Row (w.alloc (.cells (cv l).toArray 5 fr)) (some ⟨w.heap.size, 0, none⟩) l := by
  intro i hi
  refine ⟨w.heap.size, 0, rfl, ?_, h i⟩
  rw [cell_of_row _ w.heap.size (0 + i) (cv l).toArray 5 fr (heap_alloc_new w _)]
  simpa using cv_get l i hi
set_option maxRecDepth 100000 in
/-- Block 0 begins otherwise. -/
theorem open_bad {w : World} {dp : Nat} {F : List Nat} {d : Dv} (h : Dev w dp F d) (hn : 246 ≤ d.n) (hz : d.cur 0 = zeros) : Calls Tryz.prog 12 #[.pointer (some ⟨dp, 0, none⟩)] w fun e w' => e = .returned (.tuple #[.pointer none, .int .i64 10]) ∧ Below w.heap.size w w' := by
  have kc := fun (w : World) (C : Array Value) (n c : Nat) => Lib.run_convert_bytes_const (P := Tryz.prog) w 65 5 C n c Tryz.underlying65 Tryz.underlying5
  have hd : decide (d.n < 246) = false := decide_eq_false (by omega)
  have hR := readD h 0 (by omega)
  rw [hz] at hR
  have HR : Hid (Calls Tryz.prog 29 #[.pointer (some ⟨dp, 0, none⟩), .int .i64 0] w fun e w' => ∃ g, e = .returned (.tuple #[.slice (some ⟨g, 0, none⟩) 512 512, .int .i64 0]) ∧ Full w' g 93 zeros ∧ w.heap.size ≤ g ∧ Below w.heap.size w w') := hR
  have HP : Hid (∀ (w2 : World) (g : Nat), Full w2 g 93 zeros → Calls Tryz.prog 30 #[.slice (some ⟨g, 0, none⟩) 512 512, .slice (some ⟨w2.heap.size, 0, none⟩) 8 8] (w2.alloc (.cells (cv mag).toArray 5 (8, 9))) fun e w' => e = .returned (.bool false) ∧ w' = w2.alloc (.cells (cv mag).toArray 5 (8, 9))) := fun w2 g hf => by
    have hb : Below w2.heap.size w2 (w2.alloc (.cells (cv mag).toArray 5 (8, 9))) := (Below.refl _ _).alloc (Nat.le_refl _) _
    exact prefix_any ((hf.below hb).row zeros_lt) (row_mark w2 mag (8, 9) mag_lt) zeros_len (by omega) false pre_no
  clear hR hz
  go_enter Tryz.func12, Tryz.ntmps12
  go_wp2_with (first
    | (go_at_call 26; refine (jsmall_any h).mono ?_; rintro e w1 ⟨rfl, hw⟩; subst w1; rw [hd])
    | (go_at_call 29; refine Calls.mono HR.out ?_; rintro e w2 ⟨g, rfl, hful, hge, hb2⟩)
    | (go_at_call 30; refine (HP.out w2 g hful).mono ?_; rintro e w3 ⟨rfl, rfl⟩))
  go_ret2
  exact ⟨rfl, hb2.alloc hb2.size _⟩
/-- What Open reads of a device at rest. -/
theorem open_pre {B : Nat} {E : List Nat} {w1 w : World} {dp : Nat} {d : Dv} {T : List (List Nat)} {s : Nat → List Nat} {F : List Nat} (hF : Fr B E w1 w) (hd : Dev w dp F d) (hFP : ∀ x ∈ F, B ≤ x ∧ x ∉ E) (hR : Rest d T s) :
    (Calls Tryz.prog 29 #[.pointer (some ⟨dp, 0, none⟩), .int .i64 0] w fun e w' => ∃ g, e = .returned (.tuple #[.slice (some ⟨g, 0, none⟩) 512 512, .int .i64 0]) ∧ Full w' g 93 (tabL T) ∧ w.heap.size ≤ g ∧ Below w.heap.size w w') ∧
    (∀ (w2 : World) (g : Nat), Full w2 g 93 (tabL T) → Calls Tryz.prog 30 #[.slice (some ⟨g, 0, none⟩) 512 512, .slice (some ⟨w2.heap.size, 0, none⟩) 8 8] (w2.alloc (.cells (cv mag).toArray 5 (8, 9))) fun e w' => e = .returned (.bool true) ∧ w' = w2.alloc (.cells (cv mag).toArray 5 (8, 9))) := by
  constructor
  · have h := readD hd 0 (by have := hR.ph.n246; omega)
    rw [cur_none hR.ph.tab0, hR.ph.tab] at h
    exact h
  · intro w2 g hf
    have hb : Below w2.heap.size w2 (w2.alloc (.cells (cv mag).toArray 5 (8, 9))) := (Below.refl _ _).alloc (Nat.le_refl _) _
    exact prefix_any ((hf.below hb).row (tabL_lt T)) (row_mark w2 mag (8, 9) mag_lt) (tabL_len T) (by omega) true (pre_yes T)
set_option maxRecDepth 100000 in
theorem open_off {B : Nat} {E : List Nat} {w1 w : World} {dp : Nat} {d : Dv} {T : List (List Nat)} {s : Nat → List Nat} (hF : Fr B E w1 w) (hD : DP B E w dp d) (hR : Rest d T s) (hon : d.on = false) (ho : d.ops < 1000000) :
    Calls Tryz.prog 12 #[.pointer (some ⟨dp, 0, none⟩)] w fun e w' => e = .returned (.tuple #[.pointer none, .int .i64 9]) ∧ Fr B E w1 w' ∧ DP B E w' dp d.tick := by
  obtain ⟨F, hd, hFP⟩ := hD
  have kc := fun (w : World) (C : Array Value) (n c : Nat) => Lib.run_convert_bytes_const (P := Tryz.prog) w 65 5 C n c Tryz.underlying65 Tryz.underlying5
  have hsm : decide (d.n < 246) = false := decide_eq_false (by have := hR.ph.n246; omega)
  obtain ⟨hR1, hP1⟩ := open_pre hF hd hFP hR
  have HR : Hid (Calls Tryz.prog 29 #[.pointer (some ⟨dp, 0, none⟩), .int .i64 0] w fun e w' => ∃ g, e = .returned (.tuple #[.slice (some ⟨g, 0, none⟩) 512 512, .int .i64 0]) ∧ Full w' g 93 (tabL T) ∧ w.heap.size ≤ g ∧ Below w.heap.size w w') := hR1
  have HP : Hid _ := hP1
  have HFl : Hid (∀ w', Below w.heap.size w w' → Calls Tryz.prog 31 #[.pointer (some ⟨dp, 0, none⟩)] w' fun e w'' => e = .returned (.int .i64 9) ∧ Fr B E w1 w'' ∧ DP B E w'' dp d.tick) := fun w' hb => by
    refine (flushD (hd.below hb) ho).mono ?_
    rintro e w'' ⟨rfl, F', hd', hk, hg⟩
    obtain ⟨g1, g2⟩ := DP.step (hF.below hb) hFP hd' hk hg
    rw [flushed_off hon] at g2
    exact ⟨by simp [hon], g1, g2⟩
  clear hR1 hP1 hR hon
  go_enter Tryz.func12, Tryz.ntmps12
  go_wp2_with (first
    | (go_at_call 26; refine (jsmall_any hd).mono ?_; rintro e w1 ⟨rfl, hw⟩; subst w1; rw [hsm])
    | (go_at_call 29; refine Calls.mono HR.out ?_; rintro e w2 ⟨g, rfl, hful, hge, hb2⟩)
    | (go_at_call 30; refine (HP.out w2 g hful).mono ?_; rintro e w3 ⟨rfl, rfl⟩)
    | (go_at_call 31; refine (HFl.out _ (hb2.alloc hb2.size _)).mono ?_; rintro e w4 ⟨rfl, hF4, hD4⟩))
  go_ret2
  exact ⟨rfl, hF4, hD4⟩
def opW (w : World) (dp : Nat) : World := (w.alloc (.map #[] 0)).alloc (.cells #[.pointer (some ⟨dp, 0, none⟩), .map (some w.heap.size), .int .i64 0, .bool false] 71)
theorem opW_facts (w : World) (dp : Nat) (T : List (List Nat)) : Below w.heap.size w (opW w dp) ∧ (opW w dp).heap.size = w.heap.size + 2 ∧ LoadAt (opW w dp) (opW w dp) (w.heap.size + 1) w.heap.size dp 0 T := by
  have s1 : (w.alloc (.map #[] 0)).heap.size = w.heap.size + 1 := by show (w.heap.push _).size = _; simp
  have b1 : Below w.heap.size w (w.alloc (.map #[] 0)) := (Below.refl _ _).alloc (Nat.le_refl _) _
  have e2 := heap_alloc_new (w.alloc (.map #[] 0)) (.cells #[.pointer (some ⟨dp, 0, none⟩), .map (some w.heap.size), .int .i64 0, .bool false] 71)
  rw [s1] at e2
  refine ⟨b1.alloc b1.size _, by show ((w.heap.push _).push _).size = _; simp, ⟨?_, ⟨0, ?_⟩, Keeps.refl _ _⟩⟩
  · have : uat T 0 = 0 := by unfold uat; omega
    rw [this]
    exact e2
  · rw [lvp_zero]
    exact (MapIs.made w).blk (Below.heap_alloc _ _ _ (by rw [s1]; omega))
set_option maxRecDepth 100000 in
theorem open_ok {B : Nat} {E : List Nat} {w1 w : World} {dp : Nat} {d : Dv} {T : List (List Nat)} {s : Nat → List Nat} (hF : Fr B E w1 w) (hD : DP B E w dp d) (hR : Rest d T s) (hon : d.on = true) (ho : d.ops < 1000000) :
    Calls Tryz.prog 12 #[.pointer (some ⟨dp, 0, none⟩)] w fun e w' => ∃ j, e = .returned (.tuple #[.pointer (some ⟨j, 0, none⟩), .int .i64 0]) ∧ Fr B E w1 w' ∧ JP B E w' j dp d.tick.flush T false ∧ w.heap.size ≤ j := by
  obtain ⟨F, hd, hFP⟩ := hD
  have kc := fun (w : World) (C : Array Value) (n c : Nat) => Lib.run_convert_bytes_const (P := Tryz.prog) w 65 5 C n c Tryz.underlying65 Tryz.underlying5
  have hsm : decide (d.n < 246) = false := decide_eq_false (by have := hR.ph.n246; omega)
  obtain ⟨hR1, hP1⟩ := open_pre hF hd hFP hR
  have HR : Hid (Calls Tryz.prog 29 #[.pointer (some ⟨dp, 0, none⟩), .int .i64 0] w fun e w' => ∃ g, e = .returned (.tuple #[.slice (some ⟨g, 0, none⟩) 512 512, .int .i64 0]) ∧ Full w' g 93 (tabL T) ∧ w.heap.size ≤ g ∧ Below w.heap.size w w') := hR1
  have HP : Hid _ := hP1
  have HFl : Hid (∀ w' g, Below w.heap.size w w' → Full w' g 93 (tabL T) → w.heap.size ≤ g → Calls Tryz.prog 31 #[.pointer (some ⟨dp, 0, none⟩)] w' fun e w'' => e = .returned (.int .i64 0) ∧ w.heap.size ≤ w''.heap.size ∧
      Calls Tryz.prog 32 #[.pointer (some ⟨w''.heap.size + 1, 0, none⟩), .slice (some ⟨g, 0, none⟩) 512 512] (opW w'' dp) fun e w3 => (∃ v, e = .returned v) ∧ Fr B E w1 w3 ∧ JP B E w3 (w''.heap.size + 1) dp d.tick.flush T false) := fun w' g hb hful hge => by
    refine (flushD (hd.below hb) ho).mono ?_
    rintro e w'' ⟨rfl, F', hd', hk, hg⟩
    obtain ⟨g1, g2⟩ := DP.step (hF.below hb) hFP hd' hk hg
    have hgF : g ∉ F := fun q => by have := hd.lt g q; omega
    have hful2 := hful.keeps hk hgF
    rw [flushed_on hon] at g2 hd'
    obtain ⟨f1, f2, f3⟩ := opW_facts w'' dp T
    have hsz : w.heap.size ≤ w''.heap.size := Nat.le_trans hb.size hk.size
    have hB := hF.big
    have hB2 := hF.size
    have hpos := hF.pos
    refine ⟨by simp [hon], hsz, ?_⟩
    have hlt' := hd'.lt
    have hgl := hful2.lt
    have hFr2 := g1.below f1
    refine (load_any f3 (hd'.below f1) (fun q => by have := hlt' _ q; omega) (fun q => by have := hlt' _ q; omega) hR.ph.good (hful2.below f1) ⟨by omega, by omega⟩ (by omega) hFr2.tab ⟨by omega, by omega⟩).mono ?_
    rintro e w3 ⟨hv, hL⟩
    have hbig : ∀ x ∈ [w''.heap.size + 1, w''.heap.size], B ≤ x ∧ x ∉ E := fun x hx => by
      have hx' : w''.heap.size ≤ x := by simp at hx; omega
      exact ⟨by omega, fun q => by have := g1.ltw x q; omega⟩
    have hT := hR.ph.good
    refine ⟨hv, hFr2.keeps hL.keep hbig, _, ⟨F', w''.heap.size, rfl, (hd'.below f1).keeps hL.keep (fun x hx c => by have := hlt' _ hx; simp at c; omega), ⟨?_, ?_, hT.four⟩, fun q => by have := hlt' _ q; omega, fun q => by have := hlt' _ q; omega⟩, fun x hx => ?_⟩
    · rw [hL.cells, uat_end hT]; rfl
    · rw [← lvp_end hT]; exact hL.live
    · rcases List.mem_cons.1 hx with rfl | hx
      · exact hbig _ (by simp)
      · rcases List.mem_cons.1 hx with rfl | hx
        · exact hbig _ (by simp)
        · rcases hg x hx with a | a
          · exact hFP x a
          · have := hb.size
            exact ⟨by omega, fun q => by have := hF.ltw x q; omega⟩
  have hmm := @run_makeMap Tryz.prog
  clear hR1 hP1 hR hon
  go_enter Tryz.func12, Tryz.ntmps12
  go_wp2_with (first
    | (go_at_call 26; refine (jsmall_any hd).mono ?_; rintro e w1 ⟨rfl, hw⟩; subst w1; rw [hsm])
    | (go_at_call 29; refine Calls.mono HR.out ?_; rintro e w2 ⟨g, rfl, hful, hge, hb2⟩)
    | (go_at_call 30; refine (HP.out w2 g hful).mono ?_; rintro e w3 ⟨rfl, rfl⟩; have hf3 := hful.below ((Below.refl _ _).alloc (Nat.le_refl _) (.cells (cv mag).toArray 5 (8, 9))))
    | (go_at_call 31; refine (HFl.out _ g (hb2.alloc hb2.size _) hf3 hge).mono ?_; rintro e w4 ⟨rfl, hsz4, hL⟩; have HLL : Hid _ := hL; clear hL)
    | (go_at_call 32; refine Calls.mono HLL.out ?_; rintro e w5 ⟨⟨v, rfl⟩, hF5, hJ5⟩))
  go_ret2
  exact ⟨_, rfl, hF5, hJ5, by omega⟩
end Go.Proofs.YtpjeidihcjljnaaGreatDoor
