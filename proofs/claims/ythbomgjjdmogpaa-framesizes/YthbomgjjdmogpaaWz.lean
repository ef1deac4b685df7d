/- Some; the walk of FrameSizes. -/
import Derived.Test.YthbomgjjdmogpaaZr
namespace Go.Proofs.Ythbomgjjdmogpaa
set_option linter.unusedSimpArgs false
set_option linter.unusedVariables false
open Go.RowKit
/-- So many bytes that hang on a number. -/
def someL (n c : Nat) : List Nat := (List.range n).map fun i => (c + i / 7) % 256
theorem someL_len (n c : Nat) : (someL n c).length = n := by simp [someL]
theorem someL_lt (n c : Nat) : ∀ i, (someL n c).getD i 0 < 256 := by
  intro i
  by_cases h : i < n
  · simp [someL, List.getD, h]; omega
  · rw [getD_out _ _ (by rw [someL_len]; omega)]; omega
/-- Behind k rounds of Some. -/
def someK (n c k : Nat) : List Nat := (List.range n).map fun i => if i < k then (c + i / 7) % 256 else 0
theorem someK_zero (n c : Nat) : someK n c 0 = List.replicate n 0 := by
  apply List.ext_getElem
  · simp [someK]
  · intro i h1 h2; simp [someK]
theorem someK_all (n c : Nat) : someK n c n = someL n c := by
  apply List.ext_getElem
  · simp [someK, someL]
  · intro i h1 h2
    simp [someK] at h1
    simp [someK, someL, h1]
theorem someK_step (n c k : Nat) (h : k < n) : (someK n c k).set k ((c + k / 7) % 256) = someK n c (k + 1) := by
  apply List.ext_getElem
  · simp [someK]
  · intro i h1 h2
    simp [someK] at h1 h2
    simp only [List.getElem_set, someK, List.getElem_map, List.getElem_range]
    by_cases e : k = i
    · subst e; simp
    · have : i < k ↔ i < k + 1 := by omega
      simp [e, this]
theorem someK_len (n c k : Nat) : (someK n c k).length = n := by simp [someK]
set_option maxRecDepth 100000 in
theorem some_any (n : Nat) (w : World) (hn : n ≤ 10000) :
    Calls Try.prog 17 #[.int .i64 (n : Int), .int .i64 3] w fun e w' => ∃ g, e = .returned (.slice (some ⟨g, 0, none⟩) n n) ∧ Own w.heap.size w' g n (someL n 3) ∧ Below w.heap.size w w' := by
  obtain ⟨i0, hi0, hz0, hz1, hz2⟩ := info_parts Try.info5
  go_enter Try.func17, Try.ntmps17
  go_wp2_with (at_make; refine wpList_make_full _ rfl _ _ 23 rfl w.heap.size 5 i0 (.int .u8 0) 1 Try.underlying23 hi0 hz0 hz1 .i64 .i64 _ _ n rfl rfl rfl rfl (by rw [hz2]; omega) (by unfold maxLen; omega) (Nat.le_refl _) ?_; intro w1 hown hg; have HO1 : Hid (Own w.heap.size w1 w.heap.size n (someK n 3 0)) := (by rw [made_rep, ← someK_zero n 3] at hown; unfold Own; rw [someK_len]; exact hown); have HB1 : Hid (Below w.heap.size w w1) := below_made hg; clear hown hg)
  go_loopw [6] (fun i x => ∃ k : Nat, k ≤ n ∧ i = .int .i64 (k : Int) ∧ Own w.heap.size x w.heap.size n (someK n 3 k) ∧ Below w.heap.size w x) (fun i _ => n - (intOf i).toNat)
  case atStart => exact ⟨0, by omega, rfl, HO1.out, HB1.out⟩
  case round =>
    obtain ⟨k, hk, rfl, hown, hbel⟩ := hrel
    have HO : Hid (Own w.heap.size wr w.heap.size n (someK n 3 k) ∧ Below w.heap.size w wr) := ⟨hown, hbel⟩
    by_cases hlt : k < n
    · have hltI : (k : Int) < (n : Int) := by omega
      have hcell := hown.cell k (by rw [someK_len]; exact hlt)
      have hfree := hown.free k
      have HN : Hid (Own w.heap.size (wr.setCell ⟨w.heap.size, k, none⟩ (.int .u8 (((3 + k / 7) % 256 : Nat) : Int))) w.heap.size n (someK n 3 (k + 1))) := by
        have := hown.store k ((3 + k / 7) % 256)
        rw [someK_step n 3 k hlt] at this
        exact this
      have q7 : Int.tdiv (k : Int) 7 = ((k / 7 : Nat) : Int) := by rw [Int.tdiv_eq_ediv_of_nonneg (by omega)]; omega
      clear hown hbel
      generalize (someK n 3 k).getD k 0 = c0 at hcell
      go_wp2_with fail
      have ev : ((3 : Int) + (k : Int) / 7) % 256 = (((3 + k / 7) % 256 : Nat) : Int) := by omega
      rw [ev]
      exact ⟨⟨k + 1, by omega, by go_num, HN.out, HO.out.2.setCell (p := ⟨w.heap.size, k, none⟩) (Nat.le_refl _) _⟩, by simp [intOf]; omega⟩
    · obtain rfl : k = n := by omega
      go_wp2_with fail
      go_ret
      exact ⟨w.heap.size, rfl, by rw [← someK_all]; exact HO.out.1, HO.out.2⟩
set_option maxRecDepth 100000 in
theorem sizes_odd (n size : Int) (w : World) (h : n < 0 ∨ 8300 < n ∨ size < 1) :
    Calls Try.prog 7 #[.int .i64 n, .int .i64 size] w fun e w' => e = .returned (.bool true) ∧ Below w.heap.size w w' := by
  have HA : Hid _ := awake_any w
  by_cases h1 : n < 0
  · go_enter Try.func7, Try.ntmps7
    go_wp2_with (go_at_call 10; refine Calls.mono HA.out ?_; rintro e w9 ⟨rfl, hb9⟩)
    go_ret
    exact ⟨rfl, hb9⟩
  by_cases h2 : 8300 < n
  · go_enter Try.func7, Try.ntmps7
    go_wp2_with (go_at_call 10; refine Calls.mono HA.out ?_; rintro e w9 ⟨rfl, hb9⟩)
    go_ret
    exact ⟨rfl, hb9⟩
  have h3 : size < 1 := by omega
  go_enter Try.func7, Try.ntmps7
  go_wp2_with (go_at_call 10; refine Calls.mono HA.out ?_; rintro e w9 ⟨rfl, hb9⟩)
  go_ret
  exact ⟨rfl, hb9⟩
theorem fr_bad4 (n : Nat) (h : 8192 < n) (h2 : n < 4294967296) : frames (le4 n) = ([], false, []) := by
  have e := be_le4 n h2 []
  rw [List.append_nil] at e
  exact frames_bad (by simp [le4]) (by rw [e]; exact h)
set_option maxHeartbeats 1600000 in
set_option maxRecDepth 100000 in
theorem sizes_big (n size : Nat) (w : World) (hn : 8192 < n) (hn2 : n ≤ 8300) (hs : 1 ≤ size) (hs2 : size ≤ 9223372036854775807) :
    Calls Try.prog 7 #[.int .i64 (n : Int), .int .i64 (size : Int)] w fun e w' => e = .returned (.bool true) ∧ Below w.heap.size w w' := by
  have HA : Hid (∀ x : World, Calls Try.prog 10 #[] x fun e w' => e = .returned (.bool true) ∧ Below x.heap.size x w') := awake_any
  have HS : Hid (Calls Try.prog 17 #[.int .i64 (n : Int), .int .i64 3] w fun e w' => ∃ g, e = .returned (.slice (some ⟨g, 0, none⟩) n n) ∧ Own w.heap.size w' g n (someL n 3) ∧ Below w.heap.size w w') := some_any n w (by omega)
  have HWR : Hid (∀ g W, Calls Try.prog 16 #[.slice (some ⟨g, 0, none⟩) n n] W fun e w' => e = .returned (.tuple #[.slice none 0 0, .bool false]) ∧ w' = W) := fun g W => wrap_big _ n n W hn (by unfold maxLen; omega)
  obtain ⟨B, HB⟩ : ∃ B, Hid (w.heap.size = B) := ⟨_, rfl⟩
  have HN : Hid (∀ W : World, Below B w W → Calls Try.prog 11 #[] W fun e w' => ∃ p, e = .returned (.pointer (some ⟨p, 0, none⟩)) ∧ W.heap.size ≤ p ∧ FeIs w' B p (.slice none 0 0) [] false ∧ Below W.heap.size W w' ∧ Below B w w') := fun W h => new_fe B w W h (by have := h.size; have := HB.out; omega)
  rw [HB.out] at HS ⊢
  have HF : Hid (∀ w1 p, FeIs w1 B p (.slice none 0 0) [] false → Below B w w1 → Calls Try.prog 12 #[.pointer (some ⟨p, 0, none⟩), .slice (some ⟨w1.heap.size, 0, none⟩) 4 4] (w1.alloc (.cells (cv (le4 n)).toArray 5)) fun e w2 => ∃ T, e = .returned (.tuple #[T, .bool false]) ∧ Below B w w2) := by
    intro w1 p h1 h2
    have hs1 : B ≤ w1.heap.size := by have := h2.size; have := HB.out; omega
    have hi : InE (w1.alloc (.cells (cv (le4 n)).toArray 5)) (fp p (.slice none 0 0)) (some ⟨w1.heap.size, 0, none⟩) 4 (le4 n) := ine_new (l := le4 n) (le4_lt n) (fun x hx => (h1.lts x hx).2) (by unfold maxLen; simp [le4])
    have hf := h1.below (below_box (.cells (cv (le4 n)).toArray 5))
    have hb2 : Below B w (w1.alloc (.cells (cv (le4 n)).toArray 5)) := h2.alloc hs1 _
    refine (feed_any B p _ [] false _ 4 (le4 n) _ hf hi (by simp; omega) (by simp [le4])).mono ?_
    rintro e w2 ⟨T, fs, v2, rfl, ho, hfs, hall, hfe, hk, _⟩
    have hr : feedS false [] (le4 n) = ([], false, []) := fr_bad4 n hn (by omega)
    rw [hr]
    exact ⟨T, rfl, FDP.below (F := []) hf hk hb2 (by simp; omega)⟩
  have hcv : (cv (le4 n)).toArray = #[.int .u8 ((n : Int) / 16777216), .int .u8 ((n : Int) / 65536), .int .u8 ((n : Int) / 256), .int .u8 ((n : Int) % 256)] := by
    have e3 : ((n / 16777216 % 256 : Nat) : Int) = (n : Int) / 16777216 := by omega
    have e2 : ((n / 65536 % 256 : Nat) : Int) = (n : Int) / 65536 := by omega
    have e1 : ((n / 256 % 256 : Nat) : Int) = (n : Int) / 256 := by omega
    have e0 : ((n % 256 : Nat) : Int) = (n : Int) % 256 := by omega
    rw [← e3, ← e2, ← e1, ← e0]
    rfl
  rw [hcv] at HF
  clear hcv
  have g1 : ¬ (n : Int) < 0 := by omega
  have g2 : ¬ (8300 : Int) < (n : Int) := by omega
  have g3 : ¬ (size : Int) < 1 := by omega
  have g4 : ¬ (n : Int) ≤ 8192 := by omega
  go_enter Try.func7, Try.ntmps7
  go_wp2_with (first
    | (go_at_call 17; refine Calls.mono HS.out ?_; rintro e w1 ⟨g, rfl, ho, hb⟩; have HB1 : Hid (Below B w w1) := hb; clear ho hb)
    | (go_at_call 16; refine (HWR.out _ _).mono ?_; rintro e w2 ⟨rfl, hw2⟩; subst w2)
    | (go_at_call 11; refine (HN.out _ HB1.out).mono ?_; rintro e w3 ⟨p, rfl, hp, hf1, hb1, hb1'⟩; have HFE1 : Hid (FeIs w3 B p (.slice none 0 0) [] false ∧ Below B w w3) := ⟨hf1, hb1'⟩; clear hf1 hb1 hb1' hp)
    | (go_at_call 12; refine (HF.out w3 p HFE1.out.1 HFE1.out.2).mono ?_; rintro e w4 ⟨T, rfl, hb4⟩; have HB4 : Hid (Below B w w4) := hb4; clear hb4)
    | (go_at_call 10; refine (HA.out _).mono ?_; rintro e w9 ⟨rfl, hb9⟩))
  go_ret
  exact ⟨rfl, HB4.out.trans (hb9.mono (by have := HB4.out.size; have := HB.out; omega))⟩
/-- A piece of a frame that is fed: it has ended, or not. -/
theorem feed_piece {W0 w : World} {B p k m : Nat} {v : Value} {f : List Nat} {a : Option Addr} {cap : Nat} (hf : f.length ≤ 8192) (hk : k < 4 + f.length) (hm : k + m ≤ 4 + f.length) (h : FeIs w B p v ((wrp f).take k) false) (hi : InE w (fp p v) a cap (((wrp f).drop k).take m)) (hb : Below B W0 w) (hB : B ≤ w.heap.size) :
    Calls Try.prog 12 #[.pointer (some ⟨p, 0, none⟩), .slice a m cap] w fun e w2 => (k + m < 4 + f.length ∧ ∃ az cz v', e = .returned (.tuple #[.slice az 0 cz, .bool true]) ∧ FeIs w2 B p v' ((wrp f).take (k + m)) false ∧ Below B W0 w2) ∨
      (k + m = 4 + f.length ∧ ∃ g off cz fa fc v', e = .returned (.tuple #[.slice (some ⟨g, off, none⟩) 1 cz, .bool true]) ∧ w2.cell? ⟨g, off, none⟩ = some (.slice fa f.length fc) ∧ Row w2 fa f ∧ FeIs w2 B p v' [] false ∧ Below B W0 w2) := by
  have hl : (((wrp f).drop k).take m).length = m := by rw [List.length_take, List.length_drop, wrp_len]; omega
  have hfd := feed_any B p v _ _ a cap _ w h hi hB (by omega)
  rw [hl] at hfd
  refine hfd.mono ?_
  rintro e w2 ⟨T, fs, v', rfl, ho, hfs, hall, hfe, hk2, hv, hbl⟩
  have hbel := FDP.below (F := []) h hk2 hb hB
  have e1 : (wrp f).take (k + m) = (wrp f).take k ++ ((wrp f).drop k).take m := List.take_add
  have e0 : feedS false ((wrp f).take k) (((wrp f).drop k).take m) = frames ((wrp f).take (k + m)) := by rw [e1]; rfl
  rw [e0] at hfs hfe ⊢
  by_cases hlt : k + m < 4 + f.length
  · rw [frames_wrp_part f (k + m) hf hlt] at hfs hfe ⊢
    obtain rfl : fs = [] := by simpa using hfs
    obtain ⟨az, cz, rfl, _⟩ := owns_frs ho
    exact .inl ⟨hlt, az, cz, v', rfl, hfe, hbel⟩
  · have he : k + m = 4 + f.length := by omega
    rw [he, List.take_of_length_le (by rw [wrp_len]; omega), frames_wrp_all f hf] at hfs hfe ⊢
    match fs, hfs, ho, hall with
    | [⟨fa, fc, fb⟩], hfs, ho, hall =>
      obtain rfl : fb = f := by simpa using hfs
      obtain ⟨az, cz, rfl, hc, _⟩ := owns_frs ho
      obtain ⟨g, off, rfl, hc1⟩ := hc 0 (by simp)
      exact .inr ⟨rfl, g, off, cz, fa, fc, v', rfl, hc1, (hall ⟨fa, fc, fb⟩ (by simp)).1, hfe, hbel⟩
set_option maxHeartbeats 1600000 in
set_option maxRecDepth 100000 in
theorem sizes_ok (n size : Nat) (w : World) (hn : n ≤ 8192) (hs : 1 ≤ size) (hs2 : size ≤ 9223372036854775807) :
    Calls Try.prog 7 #[.int .i64 (n : Int), .int .i64 (size : Int)] w fun e w' => e = .returned (.bool true) ∧ Below w.heap.size w w' := by
  have HA : Hid (∀ x : World, Calls Try.prog 10 #[] x fun e w' => e = .returned (.bool true) ∧ Below x.heap.size x w') := awake_any
  obtain ⟨B, HB⟩ : ∃ B, Hid (w.heap.size = B) := ⟨_, rfl⟩
  have HS : Hid (∀ W : World, Below B w W → Calls Try.prog 17 #[.int .i64 (n : Int), .int .i64 3] W fun e w' => ∃ g, e = .returned (.slice (some ⟨g, 0, none⟩) n n) ∧ Own W.heap.size w' g n (someL n 3) ∧ Below W.heap.size W w' ∧ Below B w w') := fun W h => (some_any n W (by omega)).mono (by rintro e w' ⟨g, rfl, h1, h2⟩; exact ⟨g, rfl, h1, h2, h.trans (h2.mono (by have := h.size; have := HB.out; omega))⟩)
  have HLS : Hid ((someL n 3).length = n) := someL_len n 3
  have HLT : Hid (∀ i, (someL n 3).getD i 0 < 256) := someL_lt n 3
  generalize someL n 3 = S at HS HLS HLT
  obtain ⟨L, HL⟩ : ∃ L, Hid (4 + n = L) := ⟨_, rfl⟩
  have hL : 4 ≤ L ∧ L ≤ 8196 := by have := HL.out; omega
  have HWR : Hid (∀ (g B1 : Nat) (W : World), Below B w W → Own B1 W g n S → Calls Try.prog 16 #[.slice (some ⟨g, 0, none⟩) n n] W fun e w' => ∃ g2 c, e = .returned (.tuple #[.slice (some ⟨g2, 0, none⟩) L c, .bool true]) ∧ InE w' [] (some ⟨g2, 0, none⟩) c (wrp S) ∧ Below B w w') := by
    intro g B1 W h1 h2
    have := wrap_ok (some ⟨g, 0, none⟩) n S W (h2.row HLT.out) (fun e => by cases e) (by rw [HLS.out]; exact hn)
    rw [HLS.out] at this
    refine this.mono ?_
    rintro e w' ⟨g2, c, rfl, h3, h4⟩
    have hw : le4 n ++ S = wrp S := by unfold wrp; rw [HLS.out]
    rw [hw] at h3 ⊢
    refine ⟨g2, c, by rw [wrp_len, HLS.out, HL.out], ⟨h3.row (wrp_lt HLT.out), h3.le.1, h3.le.2, (fun e => by cases e), fun _ x _ hm => by simp at hm⟩, h1.trans (h4.mono (by have := h1.size; have := HB.out; omega))⟩
  have HN : Hid (∀ W : World, Calls Try.prog 11 #[] W fun e w' => ∃ p, e = .returned (.pointer (some ⟨p, 0, none⟩)) ∧ W.heap.size ≤ p ∧ FeIs w' W.heap.size p (.slice none 0 0) [] false ∧ Below W.heap.size W w' ∧ Below W.heap.size W w') := fun W => new_fe W.heap.size W W (Below.refl _ _) (Nat.le_refl _)
  rw [HB.out]
  have g1 : ¬ (n : Int) < 0 := by omega
  have g2 : ¬ (8300 : Int) < (n : Int) := by omega
  have g3 : ¬ (size : Int) < 1 := by omega
  have g4 : (n : Int) ≤ 8192 := by omega
  go_enter Try.func7, Try.ntmps7
  go_wp2_with (first
    | (go_at_call 17; refine (HS.out w (Below.refl _ _)).mono ?_; rintro e w1 ⟨g, rfl, ho, hb, hb'⟩; have HO1 : Hid (Own w.heap.size w1 g n S ∧ Below B w w1) := ⟨ho, hb'⟩; clear ho hb hb')
    | (go_at_call 16; refine (HWR.out g _ w1 HO1.out.2 HO1.out.1).mono ?_; rintro e w2 ⟨gw, cw, rfl, hin, hb⟩; have HIN : Hid (InE w2 [] (some ⟨gw, 0, none⟩) cw (wrp S) ∧ Below B w w2) := ⟨hin, hb⟩; clear hin hb HO1)
    | (go_at_call 11; refine (HN.out w2).mono ?_; rintro e w3 ⟨p, rfl, hp, hf1, hb1, hb1'⟩; have HFE1 : Hid (FeIs w3 w2.heap.size p (.slice none 0 0) [] false ∧ Below w2.heap.size w2 w3) := ⟨hf1, hb1'⟩; clear hf1 hb1 hb1' hp))
  go_loopw [11, 12] (fun t i x => ∃ (k : Nat) (v : Value), k ≤ L ∧ i = .int .i64 (k : Int) ∧ ((k < L ∧ t = .int .i64 0 ∧ FeIs x w2.heap.size p v ((wrp S).take k) false) ∨ (k = L ∧ t = .int .i64 1 ∧ FeIs x w2.heap.size p v [] false)) ∧ Below w2.heap.size w2 x) (fun _ i _ => L - (intOf i).toNat)
  case atStart => exact ⟨0, .slice none 0 0, by omega, rfl, .inl ⟨by omega, rfl, by rw [List.take_zero]; exact HFE1.out.1⟩, HFE1.out.2⟩
  case round =>
    obtain ⟨k, v, hk, rfl, hst, hbel⟩ := hrel
    have HBW : Hid (Below w2.heap.size w2 wr) := hbel
    clear hbel HFE1
    rcases hst with ⟨hlt, rfl, hfe⟩ | ⟨hlt, rfl, hfe⟩
    · have HFE : Hid (FeIs wr w2.heap.size p v ((wrp S).take k) false) := hfe
      clear hfe
      have hltI : (k : Int) < (L : Int) := by omega
      obtain ⟨m, hm⟩ : ∃ m, m = min size (L - k) := ⟨_, rfl⟩
      have hm1 : 1 ≤ m ∧ k + m ≤ L := by omega
      have HFD : Hid (Calls Try.prog 12 #[.pointer (some ⟨p, 0, none⟩), .slice (cutA (some ⟨gw, 0, none⟩) cw k) m (cw - k)] wr fun e w2' => (k + m < L ∧ ∃ az cz v', e = .returned (.tuple #[.slice az 0 cz, .bool true]) ∧ FeIs w2' w2.heap.size p v' ((wrp S).take (k + m)) false ∧ Below w2.heap.size w2 w2') ∨ (k + m = L ∧ ∃ g off cz fa fc v', e = .returned (.tuple #[.slice (some ⟨g, off, none⟩) 1 cz, .bool true]) ∧ w2'.cell? ⟨g, off, none⟩ = some (.slice fa n fc) ∧ Row w2' fa S ∧ FeIs w2' w2.heap.size p v' [] false ∧ Below w2.heap.size w2 w2')) := by
        have := feed_piece (W0 := w2) (f := S) (k := k) (m := m) (by rw [HLS.out]; exact hn) (by rw [HLS.out, HL.out]; exact hlt) (by rw [HLS.out, HL.out]; exact hm1.2) HFE.out (((HIN.out.1.arg HBW.out rfl (fun x hx => (HFE.out.lts x hx).1)).cut k).take m) HBW.out HBW.out.size
        rw [HLS.out, HL.out] at this
        exact this
      have ks : ∀ y, (Instr.slice 23 (.slice (some ⟨gw, 0, none⟩) L cw) (some (.int .i64 (k : Int))) (some (.int .i64 ((k : Int) + (m : Int)))) none).run Try.prog y = .ok (.slice (cutA (some ⟨gw, 0, none⟩) cw k) m (cw - k)) y := fun y => run_slice_mid y _ L cw k m hm1.2 (by have := HIN.out.1.le; rw [wrp_len, HLS.out, HL.out] at this; exact this)
      by_cases hbig : size < L - k
      · obtain rfl : m = size := by omega
        have hbI : (m : Int) < (L : Int) - (k : Int) := by omega
        have hne : k + m < L := by omega
        have HF1 : Hid (Calls Try.prog 12 #[.pointer (some ⟨p, 0, none⟩), .slice (cutA (some ⟨gw, 0, none⟩) cw k) m (cw - k)] wr fun e w2' => ∃ az cz v', e = .returned (.tuple #[.slice az 0 cz, .bool true]) ∧ FeIs w2' w2.heap.size p v' ((wrp S).take (k + m)) false ∧ Below w2.heap.size w2 w2') := HFD.out.mono (by rintro e w' (⟨_, h⟩ | ⟨h, _⟩); exact h; omega)
        have HLN : Hid (((wrp S).take (k + m)).length = k + m) := by show _ = _; rw [List.length_take, wrp_len, HLS.out, HL.out]; omega
        have hneI : ((k : Int) + (m : Int)) < (L : Int) := by omega
        have hneq : (((k : Int) + (m : Int)) == (L : Int)) = false := by simp; omega
        have HW : Hid (∀ W v', FeIs W w2.heap.size p v' ((wrp S).take (k + m)) false → Calls Try.prog 15 #[.pointer (some ⟨p, 0, none⟩)] W fun e w' => e = .returned (.int .i64 ((k : Int) + (m : Int))) ∧ ∃ n, w' = W.drewN n) := by
          intro W v' h
          have := waiting_any _ _ _ _ _ _ h
          rw [HLN.out] at this
          have e : ((k + m : Nat) : Int) = (k : Int) + (m : Int) := by omega
          rw [e] at this
          exact this
        clear HFD hm
        go_wp2_with (first
          | (go_at_call 12; refine Calls.mono HF1.out ?_; rintro e w4 ⟨az, cz, v', rfl, h1, h2⟩; have HS4 : Hid (FeIs w4 w2.heap.size p v' ((wrp S).take (k + m)) false ∧ Below w2.heap.size w2 w4) := ⟨h1, h2⟩; clear h1 h2)
          | (go_at_call 15; refine (HW.out _ _ HS4.out.1).mono ?_; rintro e w5 ⟨rfl, n5, hw5⟩; subst w5))
        go_quiet (fail)
        go_wp2_with fail
        have hmI : ((k + m : Nat) : Int) = (k : Int) + (m : Int) := by omega
        exact ⟨⟨k + m, v', by omega, by rw [hmI], .inl ⟨hne, rfl, (HS4.out.1.drewN _).drewN _⟩, below_drewN (below_drewN HS4.out.2 _) _⟩, by simp [intOf]; omega⟩
      · have hbI : ¬ (size : Int) < (L : Int) - (k : Int) := by omega
        have hlk : (L : Int) - (k : Int) = (m : Int) := by omega
        have hbI2 : ¬ (size : Int) < (m : Int) := by omega
        have HNE : Hid (k + m = L) := by show _ = _; omega
        have HF1 : Hid (Calls Try.prog 12 #[.pointer (some ⟨p, 0, none⟩), .slice (cutA (some ⟨gw, 0, none⟩) cw k) m (cw - k)] wr fun e w2' => ∃ g off cz fa fc v', e = .returned (.tuple #[.slice (some ⟨g, off, none⟩) 1 cz, .bool true]) ∧ w2'.cell? ⟨g, off, none⟩ = some (.slice fa n fc) ∧ Row w2' fa S ∧ FeIs w2' w2.heap.size p v' [] false ∧ Below w2.heap.size w2 w2') := HFD.out.mono (by rintro e w' (⟨h, _⟩ | ⟨_, h⟩); (have := HNE.out; omega); exact h)
        have hneq : (((k : Int) + (m : Int)) == (L : Int)) = true := by have := HNE.out; simp; omega
        have hneJ : ¬ ((k : Int) + (m : Int)) < (L : Int) := by have := HNE.out; omega
        have HBY : Hid (∀ (W : World) fa fc g2, Row W fa S → Row W (some ⟨g2, 0, none⟩) S → Calls Try.prog 18 #[.slice fa n fc, .slice (some ⟨g2, 0, none⟩) n n] W fun e w' => e = .returned (.bool true) ∧ ∃ m, w' = W.drewN m) := by
          intro W fa fc g2 h1 h2
          have := bytes_any fa fc S (some ⟨g2, 0, none⟩) n S W h1 h2 (by rw [HLS.out]; unfold maxLen; omega) (by rw [HLS.out]; unfold maxLen; omega)
          rw [HLS.out, decide_eq_true rfl] at this
          exact this
        clear HFD hm
        go_wp2_with (first
          | (go_at_call 12; refine Calls.mono HF1.out ?_; rintro e w4 ⟨gx, ox, cx, fa, fc, v', rfl, hc4, hr4, h1, h2⟩; have HS4 : Hid (FeIs w4 w2.heap.size p v' [] false ∧ Below w2.heap.size w2 w4 ∧ Row w4 fa S) := ⟨h1, h2, hr4⟩; clear h1 h2 hr4))
        have HSM : Hid (∀ W : World, Below w4.heap.size w4 W → Calls Try.prog 17 #[.int .i64 (n : Int), .int .i64 3] W fun e w' => ∃ g, e = .returned (.slice (some ⟨g, 0, none⟩) n n) ∧ Row w' (some ⟨g, 0, none⟩) S ∧ Row w' fa S ∧ w'.cell? ⟨gx, ox, none⟩ = some (.slice fa n fc) ∧ Below w4.heap.size w4 w') := by
          intro W h
          have hbw : Below B w W := HIN.out.2.trans ((HS4.out.2.1.trans (h.mono HS4.out.2.1.size)).mono (by have := HIN.out.2.size; have := HB.out; omega))
          refine (HS.out W hbw).mono ?_
          rintro e w' ⟨g, rfl, h1, h2, _⟩
          have h3 : Below w4.heap.size w4 w' := h.trans (h2.mono h.size)
          exact ⟨g, rfl, h1.row HLT.out, HS4.out.2.2.below h3, by rw [h3.cell (World.block_lt_of_cell? _ _ hc4)]; exact hc4, h3⟩
        go_region_held3 (fun y : World => y.cell? ⟨gx, ox, none⟩ = some (.slice fa n fc)) (first | exact hc4 | exact hc5 | exact hc6)
          (first
            | (go_at_call 17; refine (HSM.out _ ((Below.refl _ _).drew)).mono ?_; rintro e w5 ⟨g5, rfl, q1, q2, hc5, q3⟩; have HS5 : Hid (Row w5 (some ⟨g5, 0, none⟩) S ∧ Row w5 fa S ∧ Below w4.heap.size w4 w5) := ⟨q1, q2, q3⟩; clear q1 q2 q3)
            | (go_at_call 18; refine (HBY.out _ _ _ _ HS5.out.2.1 HS5.out.1).mono ?_; rintro e w6 ⟨rfl, n6, hw6⟩; subst w6; have hc6 : (w5.drewN n6).cell? ⟨gx, ox, none⟩ = some (.slice fa n fc) := hc5))
        go_wp2_with fail
        have hmI : (k : Int) + (m : Int) = (L : Int) := by have := HNE.out; omega
        have hb6 : Below w4.heap.size w4 (w5.drewN n6) := below_drewN HS5.out.2.2 n6
        exact ⟨⟨L, v', by omega, by rw [hmI], .inr ⟨rfl, rfl, HS4.out.1.below hb6⟩, HS4.out.2.1.trans (hb6.mono HS4.out.2.1.size)⟩, by rw [hmI]; simp [intOf]; omega⟩
    · have HFE : Hid (FeIs wr w2.heap.size p v [] false) := hfe
      clear hfe
      subst hlt
      have HW : Hid (Calls Try.prog 15 #[.pointer (some ⟨p, 0, none⟩)] wr fun e w' => e = .returned (.int .i64 0) ∧ ∃ n, w' = wr.drewN n) := waiting_any _ _ _ _ _ _ HFE.out
      have HBE : Hid (∀ n w9, Below (wr.drewN n).heap.size (wr.drewN n) w9 → Below B w w9) := fun n w9 h => HIN.out.2.trans (((below_drewN HBW.out n).trans (h.mono HBW.out.size)).mono (by have := HIN.out.2.size; have := HB.out; omega))
      go_wp2_with (first
        | (go_at_call 15; refine Calls.mono HW.out ?_; rintro e w5 ⟨rfl, n5, hw5⟩; subst w5)
        | (go_at_call 10; refine (HA.out _).mono ?_; rintro e w9 ⟨rfl, hb9⟩))
      go_ret
      exact ⟨rfl, HBE.out _ _ hb9⟩
theorem frameSizes_walk (a0 a1 : Int) (w : World) (w0 : (Lit.int .i64 a0).wf = true) (w1 : (Lit.int .i64 a1).wf = true) :
    Calls Try.prog 7 #[.int .i64 a0, .int .i64 a1] w fun e w' => e = .returned (.bool true) ∧ Below w.heap.size w w' := by
  have hb := bd64 w1
  by_cases h : a0 < 0 ∨ 8300 < a0 ∨ a1 < 1
  · exact sizes_odd a0 a1 w h
  · obtain ⟨n, rfl⟩ : ∃ n : Nat, a0 = (n : Int) := ⟨a0.toNat, by omega⟩
    obtain ⟨m, rfl⟩ : ∃ n : Nat, a1 = (n : Int) := ⟨a1.toNat, by omega⟩
    by_cases hn : 8192 < n
    · exact sizes_big n m w hn (by omega) (by omega) (by omega)
    · exact sizes_ok n m w (by omega) (by omega) (by omega)
end Go.Proofs.Ythbomgjjdmogpaa
