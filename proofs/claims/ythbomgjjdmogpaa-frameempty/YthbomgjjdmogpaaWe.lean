/- The walk of FrameEmpty. -/
import Derived.Test.YthbomgjjdmogpaaZr
namespace Go.Proofs.Ythbomgjjdmogpaa
set_option linter.unusedSimpArgs false
set_option linter.unusedVariables false
open Go.RowKit
set_option maxRecDepth 100000 in
theorem empty_odd (n each : Int) (w : World) (h : n < 0 ∨ 200 < n ∨ each < 1 ∨ 10 < each) :
    Calls Try.prog 9 #[.int .i64 n, .int .i64 each] w fun e w' => e = .returned (.bool true) ∧ Below w.heap.size w w' := by
  have HA : Hid _ := awake_any w
  by_cases h1 : n < 0
  · go_enter Try.func9, Try.ntmps9
    go_wp2_with (go_at_call 10; refine Calls.mono HA.out ?_; rintro e w9 ⟨rfl, hb9⟩)
    go_ret
    exact ⟨rfl, hb9⟩
  by_cases h2 : 200 < n
  · go_enter Try.func9, Try.ntmps9
    go_wp2_with (go_at_call 10; refine Calls.mono HA.out ?_; rintro e w9 ⟨rfl, hb9⟩)
    go_ret
    exact ⟨rfl, hb9⟩
  by_cases h3 : each < 1
  · go_enter Try.func9, Try.ntmps9
    go_wp2_with (go_at_call 10; refine Calls.mono HA.out ?_; rintro e w9 ⟨rfl, hb9⟩)
    go_ret
    exact ⟨rfl, hb9⟩
  have h4 : 10 < each := by omega
  go_enter Try.func9, Try.ntmps9
  go_wp2_with (go_at_call 10; refine Calls.mono HA.out ?_; rintro e w9 ⟨rfl, hb9⟩)
  go_ret
  exact ⟨rfl, hb9⟩
/-- Feed of noughts. -/
theorem feed_zeros {W w : World} {B p k n : Nat} {v : Value} {a : Option Addr} {cap : Nat} (h : FeIs w B p v (List.replicate k 0) false) (hi : InE w (fp p v) a cap (List.replicate n 0)) (hb : Below B W w) (hB : B ≤ w.heap.size) (hn : n ≤ 1000000) :
    Calls Try.prog 12 #[.pointer (some ⟨p, 0, none⟩), .slice a n cap] w fun e w2 => ∃ az cz fz v', e = .returned (.tuple #[.slice az ((k + n) / 4) cz, .bool true]) ∧ fz.length = (k + n) / 4 ∧ FCells w2 az fz ∧ (∀ f, f ∈ fz → f.b = []) ∧ FeIs w2 B p v' (List.replicate ((k + n) % 4) 0) false ∧ Below B W w2 := by
  have hf := feed_any B p v _ _ a cap _ w h hi hB (by simpa using hn)
  rw [List.length_replicate] at hf
  refine hf.mono ?_
  rintro e w2 ⟨T, fs, v', rfl, ho, hfs, hall, hfe, hk, hv, hbl⟩
  have e0 : feedS false (List.replicate k 0) (List.replicate n 0) = (List.replicate ((k + n) / 4) [], true, List.replicate ((k + n) % 4) 0) := by
    show frames _ = _
    rw [List.replicate_append_replicate, frames_zeros]
  rw [e0] at hfs hfe ⊢
  have hl : fs.length = (k + n) / 4 := by have := congrArg List.length hfs; simpa using this
  obtain ⟨az, cz, rfl, hc, _, _⟩ := owns_frs ho
  refine ⟨az, cz, fs, v', by rw [hl], hl, hc, fun f hf => ?_, hfe, FDP.below (F := []) h hk hb hB⟩
  have hfs' : fs.map (·.b) = List.replicate ((k + n) / 4) ([] : List Nat) := hfs
  have : f.b ∈ List.replicate ((k + n) / 4) ([] : List Nat) := by rw [← hfs']; exact List.mem_map.2 ⟨f, hf, rfl⟩
  exact List.eq_of_mem_replicate this
set_option maxHeartbeats 1600000 in
set_option maxRecDepth 100000 in
theorem empty_in (n each : Nat) (w : World) (hn : n ≤ 200) (he : 1 ≤ each) (he2 : each ≤ 10) :
    Calls Try.prog 9 #[.int .i64 (n : Int), .int .i64 (each : Int)] w fun e w' => e = .returned (.bool true) ∧ Below w.heap.size w w' := by
  obtain ⟨i0, hi0, hz0, hz1, hz2⟩ := info_parts Try.info5
  have HA : Hid (∀ x : World, Calls Try.prog 10 #[] x fun e w' => e = .returned (.bool true) ∧ Below x.heap.size x w') := awake_any
  have HN : Hid (Calls Try.prog 11 #[] w fun e w' => ∃ p, e = .returned (.pointer (some ⟨p, 0, none⟩)) ∧ w.heap.size ≤ p ∧ FeIs w' w.heap.size p (.slice none 0 0) [] false ∧ Below w.heap.size w w' ∧ Below w.heap.size w w') := new_fe w.heap.size w w (Below.refl _ _) (Nat.le_refl _)
  obtain ⟨B, HB⟩ : ∃ B, Hid (w.heap.size = B) := ⟨_, rfl⟩
  rw [HB.out] at HN ⊢
  have HF0 : Hid (∀ w1 p, FeIs w1 B p (.slice none 0 0) [] false → Below B w w1 → Calls Try.prog 12 #[.pointer (some ⟨p, 0, none⟩), .slice none 0 0] w1 fun e w2 => ∃ az cz v', e = .returned (.tuple #[.slice az 0 cz, .bool true]) ∧ FeIs w2 B p v' (List.replicate (0 % 4) 0) false ∧ Below B w w2) := by
    intro w1 p h1 h2
    refine (feed_zeros (k := 0) (n := 0) h1 ⟨Row.nil _ _, by simp, by unfold maxLen; omega, fun _ => rfl, fun h0 => by simp at h0⟩ h2 (by have := h2.size; have := HB.out; omega) (by omega)).mono ?_
    rintro e w2 ⟨az, cz, fz, v', rfl, _, _, _, h3, h4⟩
    exact ⟨az, cz, v', rfl, h3, h4⟩
  have g1 : ¬ (n : Int) < 0 := by omega
  have g2 : ¬ (200 : Int) < (n : Int) := by omega
  have g3 : ¬ (each : Int) < 1 := by omega
  have g4 : ¬ (10 : Int) < (each : Int) := by omega
  have d1 : decide ((n : Int) < 0) = false := decide_eq_false g1
  have d2 : decide ((200 : Int) < (n : Int)) = false := decide_eq_false g2
  have d3 : decide ((each : Int) < 1) = false := decide_eq_false g3
  have d4 : decide ((10 : Int) < (each : Int)) = false := decide_eq_false g4
  go_enter Try.func9, Try.ntmps9
  go_wp2_with (first
    | (go_at_call 11; refine Calls.mono HN.out ?_; rintro e w1 ⟨p, rfl, hp, hf1, hb1, hb1'⟩; have HFE1 : Hid (FeIs w1 B p (.slice none 0 0) [] false ∧ Below B w w1) := ⟨hf1, hb1⟩; clear hf1 hb1 hb1' hp)
    | (go_at_call 12; refine (HF0.out w1 p HFE1.out.1 HFE1.out.2).mono ?_; rintro e w2 ⟨az, cz, v', rfl, h3, h4⟩; have HFE2 : Hid (FeIs w2 B p v' (List.replicate (0 % 4) 0) false ∧ Below B w w2) := ⟨h3, h4⟩; clear h3 h4 HFE1))
  go_loopw [8, 9] (fun t f x => ∃ (F : Nat) (v : Value), F ≤ 810 ∧ t = .int .i64 ((F / 4 : Nat) : Int) ∧ f = .int .i64 (F : Int) ∧ FeIs x B p v (List.replicate (F % 4) 0) false ∧ Below B w x) (fun _ f _ => 900 - (intOf f).toNat)
  case atStart => exact ⟨0, v', by omega, rfl, rfl, HFE2.out.1, HFE2.out.2⟩
  case round =>
    obtain ⟨F, v, hF, rfl, rfl, hfe, hbel⟩ := hrel
    have HFE : Hid (FeIs wr B p v (List.replicate (F % 4) 0) false ∧ Below B w wr) := ⟨hfe, hbel⟩
    clear hfe hbel HFE2
    obtain ⟨t, HT⟩ : ∃ t, Hid (F / 4 = t) := ⟨_, rfl⟩
    rw [HT.out]
    by_cases hlt : t < n
    · have hltI : (t : Int) < (n : Int) := by omega
      have HFD : Hid (∀ w1, w1.ownsRow wr.heap.size 5 1 (.slice (some ⟨wr.heap.size, 0, none⟩) each each) each (madeCells (Value.int .u8 0).cells (each * 1)).toList → wr.grownBy w1 none → Calls Try.prog 12 #[.pointer (some ⟨p, 0, none⟩), .slice (some ⟨wr.heap.size, 0, none⟩) each each] w1 fun e w2 => ∃ az cz fz v', e = .returned (.tuple #[.slice az ((F % 4 + each) / 4) cz, .bool true]) ∧ fz.length = (F % 4 + each) / 4 ∧ FCells w2 az fz ∧ (∀ f, f ∈ fz → f.b = []) ∧ FeIs w2 B p v' (List.replicate ((F + each) % 4) 0) false ∧ Below B w w2) := by
        intro w1 h1 h2
        have hb1 := below_made h2
        have hs : B ≤ wr.heap.size := by have := HFE.out.2.size; have := HB.out; omega
        have hs1 := hb1.size
        have := feed_zeros (k := F % 4) (n := each) (HFE.out.1.below hb1) (made_ine h1 (fun x hx => (HFE.out.1.lts x hx).2)) (HFE.out.2.trans (hb1.mono hs)) (by omega) (by omega)
        rw [show (F % 4 + each) % 4 = (F + each) % 4 by omega] at this
        exact this
      have HXE : Hid (F / 4 + (F % 4 + each) / 4 = (F + each) / 4) := by show _ = _; omega
      obtain ⟨X, HX⟩ : ∃ X, Hid ((F % 4 + each) / 4 = X) := ⟨_, rfl⟩
      rw [HX.out] at HFD HXE
      have hX : X ≤ 10 := by rw [← HX.out]; omega
      go_wp2_with (first
        | (at_make; refine wpList_make_full _ rfl _ _ 23 rfl wr.heap.size 5 i0 (.int .u8 0) 1 Try.underlying23 hi0 hz0 hz1 .i64 .i64 _ _ each rfl rfl rfl rfl (by rw [hz2]; omega) (by unfold maxLen; omega) (Nat.le_refl _) ?_; intro w1 hown hg; have HF1 : Hid _ := HFD.out w1 hown hg; clear hown hg)
        | (go_at_call 12; refine Calls.mono HF1.out ?_; rintro e w3 ⟨ax, cx, fx, vx, rfl, h1, h2, h3, h4, h5⟩; have HS3 : Hid (fx.length = X ∧ FCells w3 ax fx ∧ (∀ f, f ∈ fx → f.b = []) ∧ FeIs w3 B p vx (List.replicate ((F + each) % 4) 0) false ∧ Below B w w3) := ⟨h1, h2, h3, h4, h5⟩; clear h1 h2 h3 h4 h5 HF1))
      clear HFD HFE
      obtain ⟨W, hW⟩ : ∃ W, W = wr := ⟨_, rfl⟩
      clear hW W
      go_loopw [12] (fun i x => ∃ j : Nat, j ≤ X ∧ i = .int .i64 (j : Int) ∧ x = w3) (fun i _ => X - (intOf i).toNat)
      case atStart => exact ⟨0, by omega, rfl, rfl⟩
      case round =>
        obtain ⟨j, hj, rfl, rfl⟩ := hrel
        by_cases hjX : j < X
        · have hjI : (j : Int) < (X : Int) := by omega
          obtain ⟨g, off, eax, hc⟩ := HS3.out.2.1 j (by rw [HS3.out.1]; exact hjX)
          subst eax
          have hb0 : (fx.getD j frz).b = [] := HS3.out.2.2.1 _ (by
            have hjl : j < fx.length := by rw [HS3.out.1]; exact hjX
            simp only [List.getD, List.getElem?_eq_getElem hjl, Option.getD_some]
            exact List.getElem_mem hjl)
          unfold Fr.v at hc
          rw [hb0] at hc
          simp only [List.length_nil] at hc
          generalize (fx.getD j frz).a = fa at hc
          generalize (fx.getD j frz).cap = fc at hc
          clear hb0
          go_wp2_with fail
          exact ⟨⟨j + 1, by omega, by go_num, trivial⟩, by simp [intOf]; omega⟩
        · obtain rfl : j = X := by omega
          have HW : Hid _ := waiting_any B p vx _ false _ HS3.out.2.2.2.1
          rw [List.length_replicate] at HW
          have q4 : Int.tdiv ((F : Int) + (each : Int)) 4 = (((F + each) / 4 : Nat) : Int) := by rw [Int.tdiv_eq_ediv_of_nonneg (by omega)]; omega
          have r4 : Int.tmod ((F : Int) + (each : Int)) 4 = (((F + each) % 4 : Nat) : Int) := by rw [Int.tmod_eq_emod_of_nonneg (by omega)]; omega
          have ht : (t : Int) + (j : Int) = (((F + each) / 4 : Nat) : Int) := by have h1 := HXE.out; have h2 := HT.out; omega
          have HFN : Hid (F + each ≤ 810) := by have h1 := HT.out; show _ ≤ _; omega
          have HT2 : Hid ((F + each) / 4 < 1000) := by show _ < _; omega
          go_wp2_with (go_at_call 15; refine Calls.mono HW.out ?_; rintro e w5 ⟨rfl, n5, hw5⟩; subst w5)
          exact ⟨⟨F + each, vx, HFN.out, congrArg _ (by omega), congrArg _ (by omega), HS3.out.2.2.2.1.drewN n5, below_drewN HS3.out.2.2.2.2 n5⟩, by have := HFN.out; simp [intOf]; omega⟩
    · have hltI : ¬ (t : Int) < (n : Int) := by omega
      go_wp2_with (go_at_call 10; refine (HA.out _).mono ?_; rintro e w9 ⟨rfl, hb9⟩)
      go_ret
      exact ⟨rfl, HFE.out.2.trans (hb9.mono (by have := HFE.out.2.size; have := HB.out; omega))⟩
theorem frameEmpty_walk (a0 a1 : Int) (w : World) (w0 : (Lit.int .i64 a0).wf = true) (w1 : (Lit.int .i64 a1).wf = true) :
    Calls Try.prog 9 #[.int .i64 a0, .int .i64 a1] w fun e w' => e = .returned (.bool true) ∧ Below w.heap.size w w' := by
  by_cases h : a0 < 0 ∨ 200 < a0 ∨ a1 < 1 ∨ 10 < a1
  · exact empty_odd a0 a1 w h
  · obtain ⟨n, rfl⟩ : ∃ n : Nat, a0 = (n : Int) := ⟨a0.toNat, by omega⟩
    obtain ⟨m, rfl⟩ : ∃ n : Nat, a1 = (n : Int) := ⟨a1.toNat, by omega⟩
    exact empty_in n m w (by omega) (by omega) (by omega)
end Go.Proofs.Ythbomgjjdmogpaa
