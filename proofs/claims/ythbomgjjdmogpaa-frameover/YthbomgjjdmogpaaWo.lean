/- The walk of FrameOver. -/
import Derived.Test.YthbomgjjdmogpaaRf
namespace Go.Proofs.Ythbomgjjdmogpaa
set_option linter.unusedSimpArgs false
set_option linter.unusedVariables false
open Go.RowKit
set_option maxRecDepth 100000 in
theorem over_odd (a : Option Addr) (cap n : Nat) (z : Int) (am : Option Addr) (capm m : Nat) (w : World) (h : 10 < n ∨ z ≤ 8192 ∨ 2000 < m) (hn : n ≤ 140737488351232) (hm : m ≤ 140737488351232) :
    Calls Try.prog 6 #[.slice a n cap, .int .u32 z, .slice am m capm] w fun e w' => e = .returned (.bool true) ∧ Below w.heap.size w w' := by
  have HA : Hid _ := awake_any w
  by_cases h1 : 10 < n
  · have hI : (10 : Int) < (n : Int) := by omega
    go_enter Try.func6, Try.ntmps6
    go_wp2_with (go_at_call 10; refine Calls.mono HA.out ?_; rintro e w9 ⟨rfl, hb9⟩)
    go_ret
    exact ⟨rfl, hb9⟩
  have hI : ¬ (10 : Int) < (n : Int) := by omega
  by_cases h2 : z ≤ 8192
  · go_enter Try.func6, Try.ntmps6
    go_wp2_with (go_at_call 10; refine Calls.mono HA.out ?_; rintro e w9 ⟨rfl, hb9⟩)
    go_ret
    exact ⟨rfl, hb9⟩
  have h3 : (2000 : Int) < (m : Int) := by omega
  go_enter Try.func6, Try.ntmps6
  go_wp2_with (go_at_call 10; refine Calls.mono HA.out ?_; rintro e w9 ⟨rfl, hb9⟩)
  go_ret
  exact ⟨rfl, hb9⟩
theorem below_ofd {B n : Nat} {w w9 : World} (h : Below (w.drewN n).heap.size (w.drewN n) w9) (hB : B ≤ w.heap.size) : Below B w w9 := (below_drewN (Below.refl B w) n).trans (h.mono hB)
set_option maxHeartbeats 1600000 in
set_option maxRecDepth 100000 in
theorem over_in (a : Option Addr) (cap : Nat) (fs : List Fr) (z : Nat) (am : Option Addr) (capm : Nat) (more : List Nat) (w : World) (hr : RCame w a cap fs) (hmo : Came w am capm more) (hn : fs.length ≤ 10) (hz : 8192 < z) (hz2 : z < 4294967296) (hm : more.length ≤ 2000) :
    Calls Try.prog 6 #[.slice a fs.length cap, .int .u32 (z : Int), .slice am more.length capm] w fun e w' => e = .returned (.bool true) ∧ Below w.heap.size w w' := by
  have HA : Hid (∀ x : World, Calls Try.prog 10 #[] x fun e w' => e = .returned (.bool true) ∧ Below x.heap.size x w') := awake_any
  have HRC : Hid (RCame w a cap fs) := hr
  obtain ⟨B, HB⟩ : ∃ B, Hid (w.heap.size = B) := ⟨_, rfl⟩
  rw [HB.out]
  have g1 : ¬ (10 : Int) < (fs.length : Int) := by omega
  have g2 : ¬ (z : Int) ≤ 8192 := by omega
  have g3 : ¬ (2000 : Int) < (more.length : Int) := by omega
  have d1 : decide ((10 : Int) < (fs.length : Int)) = false := decide_eq_false g1
  clear hr hmo
  go_enter Try.func6, Try.ntmps6
  go_wp2_with fail
  go_loopw [7, 8] (fun b i x => ∃ k : Nat, k ≤ fs.length ∧ i = .int .i64 (k : Int) ∧ (∀ f, f ∈ fs.take k → f.b.length ≤ 2000) ∧ x.ownsRow B 5 1 b (wl (fs.take k)).length (cv (wl (fs.take k))) ∧ Below B w x) (fun _ i _ => fs.length - (intOf i).toNat)
  case atStart => exact ⟨0, by omega, rfl, fun f hf => by simp at hf, World.ownsRow_nil _ _ _ _, Below.refl _ _⟩
  case round =>
    obtain ⟨k, hk, rfl, hle, hown, hbel⟩ := hrel
    have HO : Hid (wr.ownsRow B 5 1 u7 (wl (fs.take k)).length (cv (wl (fs.take k))) ∧ Below B w wr ∧ (∀ f, f ∈ fs.take k → f.b.length ≤ 2000)) := ⟨hown, hbel, hle⟩
    clear hle hown hbel
    have HWB : Hid (B ≤ wr.heap.size) := by have := HO.out.2.1.size; have := HB.out; show _ ≤ _; omega
    have HWL : Hid ((wl (fs.take k)).length ≤ 30000) := by
      show _ ≤ _
      have h1 : sl (fs.take k) ≤ (fs.take k).length * 2000 := sl_le HO.out.2.2
      have h2 : (fs.take k).length ≤ 10 := by rw [List.length_take]; omega
      rw [wl_len]
      omega
    by_cases hlt : k < fs.length
    · have hltI : (k : Int) < (fs.length : Int) := by omega
      obtain ⟨g, off, ea, hcw⟩ := HRC.out.cells k hlt
      subst ea
      have hcell : wr.cell? ⟨g, off + k, none⟩ = some ((fs.getD k frz).v) := by
        rw [HO.out.2.1.cell (by have := World.block_lt_of_cell? _ _ hcw; simp only at this ⊢; have := HB.out; omega)]; exact hcw
      clear hcw
      have hcame := HRC.out.each _ (getD_mem hlt)
      have HNW : Hid (∀ (x : World) (b : Value), x.ownsRow B 5 1 b ((wl (fs.take k)).length + (wrp (fs.getD k frz).b).length) (cv (wl (fs.take k)) ++ cv (wrp (fs.getD k frz).b)) → x.ownsRow B 5 1 b (wl (fs.take (k + 1))).length (cv (wl (fs.take (k + 1))))) := fun x b h => wl_next hlt h
      have HNL : Hid ((fs.getD k frz).b.length ≤ 2000 → ∀ f, f ∈ fs.take (k + 1) → f.b.length ≤ 2000) := by
        intro h f hf
        rw [take_next hlt] at hf
        rcases List.mem_append.1 hf with q | q
        · exact HO.out.2.2 f q
        · simp only [List.mem_singleton] at q; rw [q]; exact h
      unfold Fr.v at hcell
      obtain ⟨WK, HWK⟩ : ∃ W, Hid (wl (fs.take k) = W) := ⟨_, rfl⟩
      rw [HWK.out] at HO HNW HWL
      generalize fs.getD k frz = f at *
      obtain ⟨fa, fc, fb⟩ := f
      simp only at hcell hcame HNW HNL
      have HCM : Hid (Came wr fa fc fb) := ⟨hcame.1.keeps (Keeps.of_below (F := []) (by rw [← HB.out] at HO; exact HO.out.2.1) ) (by simp), hcame.2⟩
      have hfl := hcame.2
      clear hcame
      have HBE : Hid (∀ w9, Below wr.heap.size wr w9 → Below B w w9) := fun w9 h => HO.out.2.1.trans (h.mono HWB.out)
      by_cases hmx : 8192 < fb.length
      · have HWR : Hid (Calls Try.prog 16 #[.slice fa fb.length fc] wr fun e w' => e = .returned (.tuple #[.slice none 0 0, .bool false]) ∧ w' = wr) := wrap_big fa fc fb.length wr hmx (by unfold maxLen; omega)
        go_wp2_with (first
          | (go_at_call 16; refine Calls.mono HWR.out ?_; rintro e w3 ⟨rfl, hw3⟩; subst w3)
          | (go_at_call 10; refine (HA.out _).mono ?_; rintro e w9 ⟨rfl, hb9⟩))
        go_ret
        exact ⟨rfl, HBE.out _ hb9⟩
      · have HWR : Hid (Calls Try.prog 16 #[.slice fa fb.length fc] wr fun e w' => ∃ g c, e = .returned (.tuple #[.slice (some ⟨g, 0, none⟩) (wrp fb).length c, .bool true]) ∧ Own wr.heap.size w' g c (wrp fb) ∧ Below wr.heap.size wr w') := wrap_ok fa fc fb wr HCM.out.1.row HCM.out.1.nil (by omega)
        have HLT : Hid (∀ i, (wrp fb).getD i 0 < 256) := wrp_lt HCM.out.1.row.lt
        have HWN : Hid ((wrp fb).length ≤ 8196) := by show _ ≤ _; rw [wrp_len]; omega
        obtain ⟨WF, HWF⟩ : ∃ W, Hid (wrp fb = W) := ⟨_, rfl⟩
        rw [HWF.out] at HWR HLT HWN HNW
        by_cases h2k : 2000 < fb.length
        · have hkI : (2000 : Int) < (fb.length : Int) := by omega
          go_wp2_with (first
            | (go_at_call 16; refine Calls.mono HWR.out ?_; rintro e w3 ⟨g3, c3, rfl, ho3, hb3'⟩; have HB3 : Hid (Below B w w3 ∧ B ≤ w3.heap.size) := ⟨HO.out.2.1.trans (hb3'.mono HWB.out), Nat.le_trans HWB.out hb3'.size⟩; have hcell3 : w3.cell? ⟨g, off + k, none⟩ = some (.slice fa fb.length fc) := (hb3'.cell (World.block_lt_of_cell? _ _ hcell)).trans hcell; clear ho3 hb3')
            | (go_at_call 10; refine (HA.out _).mono ?_; rintro e w9 ⟨rfl, hb9⟩))
          go_ret
          exact ⟨rfl, HB3.out.1.trans (hb9.mono HB3.out.2)⟩
        · have hkI : ¬ (2000 : Int) < (fb.length : Int) := by omega
          have HFL : Hid (fb.length ≤ 2000) := by show _ ≤ _; omega
          go_wp2_with (first
            | (go_at_call 16; refine Calls.mono HWR.out ?_; rintro e w3 ⟨g3, c3, rfl, ho3, hb3'⟩; have HS3 : Hid (Row w3 (some ⟨g3, 0, none⟩) WF ∧ w3.ownsRow B 5 1 u7 WK.length (cv WK) ∧ Below B w w3 ∧ B ≤ w3.heap.size) := ⟨ho3.row HLT.out, owns_below HO.out.1 hb3', HO.out.2.1.trans (hb3'.mono HWB.out), Nat.le_trans HWB.out hb3'.size⟩; have hcell3 : w3.cell? ⟨g, off + k, none⟩ = some (.slice fa fb.length fc) := (hb3'.cell (World.block_lt_of_cell? _ _ hcell)).trans hcell; clear ho3 hb3')
            | (at_builtin; refine wpList_append_row (by rfl) _ _ rfl B w _ _ _ rfl HS3.out.2.1 HS3.out.2.2.1 HS3.out.2.2.2 (some ⟨g3, 0, none⟩) c3 WF rfl HS3.out.1 (fun e => by cases e) (by have h1 := HWL.out; have h2 := HWN.out; omega) ?_; intro v4 w4 hown4 hb4; have HE4 : Hid (w4.ownsRow B 5 1 v4 (wl (fs.take (k + 1))).length (cv (wl (fs.take (k + 1)))) ∧ Below B w w4) := ⟨HNW.out _ _ hown4, hb4⟩; clear hown4 hb4))
          exact ⟨⟨k + 1, by omega, by go_num, HNL.out HFL.out, HE4.out.1, HE4.out.2⟩, by simp [intOf]; omega⟩
    · obtain rfl : k = fs.length := by omega
      rw [List.take_length] at HO HWL
      clear hk hlt
      have HNE : Hid (Calls Try.prog 11 #[] wr fun e w' => ∃ p, e = .returned (.pointer (some ⟨p, 0, none⟩)) ∧ wr.heap.size ≤ p ∧ FeIs w' B p (.slice none 0 0) [] false ∧ Below wr.heap.size wr w' ∧ Below B w w') := new_fe B w wr HO.out.2.1 HWB.out
      have HNO : Hid (∀ W : World, Calls Try.prog 12 #[.pointer none, .slice am more.length capm] W fun e w' => e = .returned (.tuple #[.slice none 0 0, .bool false]) ∧ w' = W) := fun W => feed_none am more.length capm W
      have HCV : Hid ((cv (le4 z)).toArray = #[.int .u8 ((z : Int) / 16777216), .int .u8 ((z : Int) / 65536 % 256), .int .u8 ((z : Int) / 256 % 256), .int .u8 ((z : Int) % 256)]) := by
        have e3 : ((z / 16777216 % 256 : Nat) : Int) = (z : Int) / 16777216 := by omega
        have e2 : ((z / 65536 % 256 : Nat) : Int) = (z : Int) / 65536 % 256 := by omega
        have e1 : ((z / 256 % 256 : Nat) : Int) = (z : Int) / 256 % 256 := by omega
        have e0 : ((z % 256 : Nat) : Int) = (z : Int) % 256 := by omega
        show _ = _
        rw [← e3, ← e2, ← e1, ← e0]
        rfl
      have HROW : Hid (∀ y : World, Row (y.alloc (.cells #[.int .u8 ((z : Int) / 16777216), .int .u8 ((z : Int) / 65536 % 256), .int .u8 ((z : Int) / 256 % 256), .int .u8 ((z : Int) % 256)] 5)) (some ⟨y.heap.size, 0, none⟩) (le4 z)) := fun y => by
        have := row_alloc y (le4 z) (le4_lt z)
        rw [HCV.out] at this
        exact this
      have HFD : Hid (∀ (w4 w5 : World) (p : Nat) (v5 : Value), FeIs w4 B p (.slice none 0 0) [] false → w4.ownsRow B 5 1 u7 (wl fs).length (cv (wl fs)) → Below B w w4 → B ≤ w4.heap.size → w5.ownsRow B 5 1 v5 (wl fs ++ le4 z).length (cv (wl fs ++ le4 z)) → w4.grownBy w5 u7.ownBlock → ∃ a5 c5, v5 = .slice a5 (wl fs ++ le4 z).length c5 ∧ Calls Try.prog 12 #[.pointer (some ⟨p, 0, none⟩), .slice a5 (wl fs ++ le4 z).length c5] w5 fun e w6 => ∃ T v', e = .returned (.tuple #[T, .bool false]) ∧ Calls Try.prog 14 #[T, .slice a fs.length cap] w6 (fun e w' => e = .returned (.bool true) ∧ ∃ n, w' = w6.drewN n) ∧ FeIs w6 B p v' [] true ∧ Below B w w6) := by
        intro w4 w5 p v5 h1 h2 h3 h4 h5 h6
        have hk : Keeps u7.ownBlock.toList w4 w5 := Keeps.grown (Keeps.refl _ _) h6 (fun x e => .inl (by simpa using e))
        obtain ⟨hd, hb, _⟩ := h1.ex
        have hne := row_box h2 hb.box (by decide)
        have hf5 : FeIs w5 B p (.slice none 0 0) [] false := h1.keeps hk (fun x hx hm => by
          simp [fp, Value.ownBlock] at hx
          subst hx
          exact hne _ (by simpa using hm) rfl)
        obtain ⟨hd5, hb5, _⟩ := hf5.ex
        have hbel5 : Below B w w5 := h3.trans (hk.below (fun x hx => (h2.lt x (by simpa using hx)).1) h4)
        have hs5 : B ≤ w5.heap.size := Nat.le_trans h4 hk.size
        have hlt : ∀ i, (wl fs ++ le4 z).getD i 0 < 256 := app_lt (wl_lt (fun f hf => (HRC.out.each f hf).1.row.lt)) (le4_lt z)
        obtain ⟨a5, c5, rfl, hin⟩ := owns_ine h5 hlt hb5 (fp p (.slice none 0 0)) (fun x hx => by simpa [fp, Value.ownBlock] using hx)
        have hl8 : ∀ f, f ∈ fs → f.b.length ≤ 8192 := fun f hf => by have := HO.out.2.2 f hf; omega
        refine ⟨a5, c5, rfl, (feed_any B p _ [] false a5 c5 _ w5 hf5 hin hs5 (by have := HWL.out; rw [List.length_append]; simp [le4]; omega)).mono ?_⟩
        rintro e w6 ⟨T, gs, v', rfl, ho, hgs, hall, hfe, hk6, _⟩
        have e0 : feedS false [] (wl fs ++ le4 z) = (fs.map (·.b), false, []) := by
          show frames (wl fs ++ le4 z) = _
          have hb4 : frames (le4 z) = ([], false, []) := by
            have e := be_le4 z hz2 []
            rw [List.append_nil] at e
            exact frames_bad (by simp [le4]) (by rw [e]; exact hz)
          rw [frames_wl fs _ hl8, hb4]
          simp
        rw [e0] at hgs hfe ⊢
        have hbel6 := FDP.below (F := []) hf5 hk6 hbel5 hs5
        have hbw : Below w.heap.size w w6 := by rw [HB.out]; exact hbel6
        refine ⟨T, v', rfl, ?_, hfe, hbel6⟩
        obtain ⟨aT, cT, rfl, hcT, hmT, _⟩ := owns_frs ho
        have hgs' : gs.map (·.b) = fs.map (·.b) := hgs
        have hlen : ∀ f, f ∈ fs → f.b.length ≤ maxLen := fun f hf => by have := hl8 f hf; unfold maxLen; omega
        have := same_any aT cT gs a cap fs w6 hcT (HRC.out.cells.below hbw) (fun f hf => ⟨(hall f hf).1, by
          have hm : f.b ∈ fs.map (·.b) := by rw [← hgs']; exact List.mem_map.2 ⟨f, hf, rfl⟩
          obtain ⟨f2, hf2, e2⟩ := List.mem_map.1 hm
          rw [← e2]; exact hlen f2 hf2⟩) (fun f hf => ⟨(HRC.out.each f hf).1.row.below hbw, hlen f hf⟩) hmT (by unfold maxLen; omega)
        rw [decide_eq_true hgs'] at this
        exact this
      have HSH : Hid (∀ w6 p v', FeIs w6 B p v' [] true → Calls Try.prog 12 #[.pointer (some ⟨p, 0, none⟩), .slice am more.length capm] w6 fun e w' => e = .returned (.tuple #[.slice none 0 0, .bool false]) ∧ w' = w6) := fun w6 p v' h => feed_shut B p v' [] am more.length capm w6 h
      have HWT : Hid (∀ w6 p v', FeIs w6 B p v' [] true → ∀ n, Calls Try.prog 15 #[.pointer (some ⟨p, 0, none⟩)] (w6.drewN n) fun e w' => e = .returned (.int .i64 0) ∧ ∃ m, w' = w6.drewN m) := fun w6 p v' h n => (waiting_any B p v' _ _ _ (h.drewN n)).mono (by rintro e w' ⟨rfl, y, rfl⟩; exact ⟨rfl, n + y, World.drewN_drewN _ _ _⟩)
      obtain ⟨ZL, hZL⟩ : ∃ L : List Nat, L = wl fs ++ le4 z := ⟨_, rfl⟩
      obtain ⟨Z, hZ⟩ : ∃ Z : Nat, ZL.length = Z := ⟨_, rfl⟩
      rw [hZL] at hZ
      have HZ : Hid ((wl fs ++ le4 z).length = Z) := hZ
      clear hZ hZL ZL
      have HF2 : Hid (∀ (w4 w5 : World) (p : Nat) (v5 : Value), FeIs w4 B p (.slice none 0 0) [] false → w4.ownsRow B 5 1 u7 (wl fs).length (cv (wl fs)) → Below B w w4 → B ≤ w4.heap.size → w5.ownsRow B 5 1 v5 (wl fs ++ le4 z).length (cv (wl fs ++ le4 z)) → w4.grownBy w5 u7.ownBlock → ∃ a5 c5, v5 = .slice a5 Z c5 ∧ Calls Try.prog 12 #[.pointer (some ⟨p, 0, none⟩), .slice a5 Z c5] w5 fun e w6 => ∃ T v', e = .returned (.tuple #[T, .bool false]) ∧ Calls Try.prog 14 #[T, .slice a fs.length cap] w6 (fun e w' => e = .returned (.bool true) ∧ ∃ n, w' = w6.drewN n) ∧ FeIs w6 B p v' [] true ∧ Below B w w6) := by
        intro w4 w5 p v5 h1 h2 h3 h4 h5 h6
        have := HFD.out w4 w5 p v5 h1 h2 h3 h4 h5 h6
        rw [HZ.out] at this
        exact this
      clear HFD HZ HRC
      have tok : True := trivial
      go_wp2_with (first
        | (go_at_call 11; refine Calls.mono HNE.out ?_; rintro e w3 ⟨p, rfl, hp, hf3, hb3', hb3w⟩; have HS3 : Hid (∀ o, FeIs (w3.alloc o) B p (.slice none 0 0) [] false ∧ (w3.alloc o).ownsRow B 5 1 u7 (wl fs).length (cv (wl fs)) ∧ Below B w (w3.alloc o) ∧ B ≤ (w3.alloc o).heap.size) := fun o => ⟨hf3.below (below_box o), World.ownsRow.alloc (owns_below HO.out.1 hb3') o, hb3w.alloc (Nat.le_trans HWB.out hb3'.size) o, Nat.le_trans (Nat.le_trans HWB.out hb3'.size) (by simp)⟩; clear hf3 hp hb3' hb3w)
        | (at_builtin; refine wpList_append_rowg (by rfl) _ _ rfl B _ (wl fs) rfl (HS3.out _).2.1 (HS3.out _).2.2.2 (some ⟨w3.heap.size, 0, none⟩) 4 (le4 z) rfl (HROW.out w3) (fun e => by cases e) (by have := HWL.out; simp [le4]; omega) ?_; intro v5 w5 h1 h2; obtain ⟨a5, c5, e5, hcall⟩ := HF2.out _ w5 p v5 (HS3.out _).1 (HS3.out _).2.1 (HS3.out _).2.2.1 (HS3.out _).2.2.2 h1 h2; subst e5; have HC5 : Hid (Calls Try.prog 12 #[.pointer (some ⟨p, 0, none⟩), .slice a5 Z c5] w5 fun e w6 => ∃ T v', e = .returned (.tuple #[T, .bool false]) ∧ Calls Try.prog 14 #[T, .slice a fs.length cap] w6 (fun e w' => e = .returned (.bool true) ∧ ∃ n, w' = w6.drewN n) ∧ FeIs w6 B p v' [] true ∧ Below B w w6) := hcall; clear h1 h2 hcall HF2)
        | (go_at_call 12; have _t := HC5; refine Calls.mono HC5.out ?_; rintro e w6 ⟨T, v', rfl, h1, h2, h3⟩; have HS6 : Hid (Calls Try.prog 14 #[T, .slice a fs.length cap] w6 (fun e w' => e = .returned (.bool true) ∧ ∃ n, w' = w6.drewN n)) := h1; have HW6 : Hid (∀ n, Calls Try.prog 15 #[.pointer (some ⟨p, 0, none⟩)] (w6.drewN n) fun e w' => e = .returned (.int .i64 0) ∧ ∃ m, w' = w6.drewN m) := HWT.out w6 p v' h2; have HH6 : Hid (Calls Try.prog 12 #[.pointer (some ⟨p, 0, none⟩), .slice am more.length capm] w6 fun e w' => e = .returned (.tuple #[.slice none 0 0, .bool false]) ∧ w' = w6) := HSH.out w6 p v' h2; have HB6 : Hid (Below B w w6) := h3; clear h1 h2 h3 HC5 _t)
        | (go_at_call 12; have _t := HH6; refine Calls.mono HH6.out ?_; rintro e w7 ⟨rfl, hw7⟩; subst w7; clear _t HH6)
        | (go_at_call 12; refine (HNO.out _).mono ?_; rintro e w8 ⟨rfl, hw8⟩; subst w8)
        | (go_at_call 14; refine Calls.mono HS6.out ?_; rintro e w7 ⟨rfl, n7, hw7⟩; subst w7)
        | (go_at_call 15; refine (HW6.out _).mono ?_; rintro e w8 ⟨rfl, n8, hw8⟩; subst w8)
        | (go_at_call 10; refine (HA.out _).mono ?_; rintro e w9 ⟨rfl, hb9⟩))
      go_ret
      exact ⟨rfl, HB6.out.trans (below_ofd hb9 (by have := HB6.out.size; have := HB.out; omega))⟩
theorem bdu32 {a : Int} (h : (Lit.int .u32 a).wf = true) : 0 ≤ a ∧ a ≤ 4294967295 := by
  simpa [Lit.wf, IntKind.min, IntKind.max, IntKind.signed, IntKind.bits] using h
theorem frameOver_walk (a0 : Option Addr) (cap0 : Nat) (l0 : List Fr) (a1 : Int) (a2 : Option Addr) (cap2 : Nat) (l2 : List Nat) (w : World) (w0 : RCame w a0 cap0 l0) (w1 : (Lit.int .u32 a1).wf = true) (w2 : Came w a2 cap2 l2) :
    Calls Try.prog 6 #[.slice a0 l0.length cap0, .int .u32 a1, .slice a2 l2.length cap2] w fun e w' => e = .returned (.bool true) ∧ Below w.heap.size w w' := by
  have h1 := w0.len
  have h2 := w2.2
  have hb := bdu32 w1
  by_cases h : 10 < l0.length ∨ a1 ≤ 8192 ∨ 2000 < l2.length
  · exact over_odd a0 cap0 l0.length a1 a2 cap2 l2.length w h h1 h2
  · obtain ⟨n, rfl⟩ : ∃ n : Nat, a1 = (n : Int) := ⟨a1.toNat, by omega⟩
    exact over_in a0 cap0 l0 n a2 cap2 l2 w w0 w2 (by omega) (by omega) (by omega) (by omega)
end Go.Proofs.Ythbomgjjdmogpaa
