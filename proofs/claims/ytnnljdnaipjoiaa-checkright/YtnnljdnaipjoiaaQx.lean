/- CheckRight: the walk. -/
import Derived.Test.YtnnljdnaipjoiaaQw
import Derived.Deep.CutBlock
namespace Go.Proofs.Ytnnljdnaipjoiaa
set_option linter.unusedSimpArgs false
set_option linter.unusedVariables false
open Go.RowKit
theorem RInv.first {w w1 : World} {p r g : Nat} {seg : Int} (h : PIs w.heap.size p seg r 0 1 [⟨g, 0, none, 0, []⟩] w1) (hb : Below w.heap.size w w1) : RInv w p w1.heap.size seg 0 (w1.alloc (.cells #[.map none, .map none, .map none] 59)) :=
  ⟨_, _, _, 0, 0, ls0, r, 0, 1, h.below (below_box _), AwK.zero hb hb.size, Good.start g, Kn.zero _ _ _ _ _, by simp [List.getD], by simp, by simp [lastS, List.getD]⟩
theorem conv_one (c : Nat) (h : c < 256) (x : Int) (hx : x = (c : Int)) (y : World) : (convert 44 9 (.slice (some ⟨y.heap.size, 0, none⟩) 1 1)).run Try.prog (y.alloc (.cells #[.int .u8 x] 5)) = .ok (.string (strN [c])) (y.alloc (.cells #[.int .u8 x] 5)) := by
  have hr : Row (y.alloc (.cells #[.int .u8 x] 5)) (some ⟨y.heap.size, 0, none⟩) [c] := by
    intro i hi
    obtain rfl : i = 0 := by simpa using hi
    refine ⟨y.heap.size, 0, rfl, ?_, h⟩
    rw [hx]
    exact cell_of_row _ _ 0 _ _ _ (heap_alloc_new y _)
  have h5 := conv_row 1 hr
  exact h5
theorem wrap_in (x : Int) : In64 (wrap64 x) := by unfold In64 wrap64; omega
theorem wrap_inI (x : Int) : In64 (IntKind.i64.wrap x) := by unfold In64; rw [IntKind.wrap_i64]; omega
theorem strN_size (l : List Nat) : (strN l).size = l.length := by unfold strN; rw [strOfNums_size]; simp
theorem conv_some {y : World} {B g n : Nat} {l : List Nat} (hl : l.length = n) (h : Own B y g n l) (hb : ∀ i, l.getD i 0 < 256) : (convert 44 9 (.slice (some ⟨g, 0, none⟩) n n)).run Try.prog y = .ok (.string (strN l)) y := by
  subst hl
  exact conv_row l.length (h.row hb)
theorem rrow_two {w : World} {g : Nat} {r0 r1 : Rc} (h : w.heap[g]? = some (.cells (r0.cells ++ r1.cells) 48 (0, 0))) : RRow w (some ⟨g, 0, none⟩) [r0, r1] := by
  have hc : ∀ j, w.cell? ⟨g, j, none⟩ = (r0.cells ++ r1.cells)[j]? := fun j => cell_of_row _ g j _ 48 (0, 0) h
  intro i hi
  match i, hi with
  | 0, _ => exact ⟨g, 0, rfl, hc 0, hc 1, hc 2, hc 3, hc 4, hc 5⟩
  | 1, _ => exact ⟨g, 0, rfl, hc 6, hc 7, hc 8, hc 9, hc 10, hc 11⟩
theorem RInv.app2 {w y : World} {p pc : Nat} {seg : Int} {i : Nat} (h : RInv w p pc seg i y) (hi : i < 61) (g : Nat) (r0 r1 : Rc) (hr : y.heap[g]? = some (.cells (r0.cells ++ r1.cells) 48 (0, 0))) (h0 : r0.k.size ≤ 20000 ∧ r0.v.size ≤ 20000) (h1 : r1.k.size ≤ 20000 ∧ r1.v.size ≤ 20000) :
    Calls Try.prog 17 #[.pointer (some ⟨p, 0, none⟩), .int .i64 1, .int .i64 (i : Int), .slice (some ⟨g, 0, none⟩) 2 2] y fun e z => TupE e ∧ RInv w p pc seg (i + 1) z :=
  h.app hi (some ⟨g, 0, none⟩) 2 [r0, r1] (rrow_two hr) rfl (fun k hk => by
    match k, hk with
    | 0, _ => exact h0
    | 1, _ => exact h1)
theorem some_100 (w : World) : Calls Try.prog 18 #[.int .i64 100, .int .i64 65] w fun e w' => ∃ g, e = .returned (.slice (some ⟨g, 0, none⟩) 100 100) ∧ Own w.heap.size w' g 100 (someL 100 65) ∧ Below w.heap.size w w' := some_any 100 w (by omega)
theorem RInv.app3 {w y : World} {p pc : Nat} {seg : Int} {i : Nat} (h : RInv w p pc seg i y) (hi : i < 61) (kk k2 T : ByteArray) (hv : Bool) (h0 : kk.size ≤ 20000) (h1 : k2.size ≤ 20000) (h2 : T.size ≤ 20000) :
    Calls Try.prog 17 #[.pointer (some ⟨p, 0, none⟩), .int .i64 1, .int .i64 (i : Int), .slice (some ⟨y.heap.size, 0, none⟩) 2 2] (y.alloc (.cells #[.bool true, .string kk, .bool hv, .string ⟨#[]⟩, .int .i64 (i : Int), .int .i64 0, .bool true, .string k2, .bool true, .string T, .int .i64 (i : Int), .int .i64 0] 48)) fun e z => TupE e ∧ RInv w p pc seg (i + 1) z :=
  (h.below (below_box _)).app2 hi y.heap.size ⟨true, kk, hv, ⟨#[]⟩, (i : Int), 0⟩ ⟨true, k2, true, T, (i : Int), 0⟩ (heap_alloc_new y _) ⟨h0, Nat.zero_le _⟩ ⟨h1, h2⟩
set_option maxHeartbeats 8000000 in
set_option maxRecDepth 100000 in
theorem checkRight_walk (a0 : Option Addr) (cap0 : Nat) (l0 : List Int) (a1 : Int) (w : World) (hu : ICame w a0 cap0 l0) (hw1 : (Lit.int .i64 a1).wf = true) :
    Calls Try.prog 4 #[.slice a0 l0.length cap0, .int .i64 a1] w fun e w' => e = .returned (.bool true) ∧ Below w.heap.size w w' := by
  have HAWK : Hid (∀ y, Below w.heap.size w y → Calls Try.prog 9 #[] y fun e w' => e = .returned (.bool true) ∧ Below w.heap.size w w') := fun y hb => (awake_any y).mono fun e z ⟨h1, h2⟩ => ⟨h1, hb.trans (h2.mono hb.size)⟩
  have HB0 : Hid (Below w.heap.size w w) := Below.refl _ _
  have HRW : Hid (∀ y, Below w.heap.size w y → IRow y a0 l0) := fun y hb => hu.row.below hb
  have HIN : Hid (∀ i, i < l0.length → In64 (l0.getD i 0)) := hu.in64
  clear hu hw1
  by_cases hbad : 60 < (l0.length : Int) ∨ a1 < 512 ∨ 3000 < a1
  · go_enter Try.func4, Try.ntmps4
    go_wp2_with (go_at_call 9; refine (HAWK.out _ HB0.out).mono ?_; rintro e w9 ⟨rfl, hb9⟩)
    all_goals
      go_ret
      exact ⟨rfl, hb9⟩
  · have h1 : ¬ 60 < (l0.length : Int) := fun h => hbad (.inl h)
    have h2 : ¬ a1 < 512 := fun h => hbad (.inr (.inl h))
    have h3 : ¬ 3000 < a1 := fun h => hbad (.inr (.inr h))
    have hl60 : l0.length ≤ 60 := by omega
    clear hbad
    go_enter Try.func4, Try.ntmps4
    go_wp2_with (first
      | (go_at_call 13; refine (newPart_any _ _).mono ?_; rintro e w1 ⟨p, r, g, rfl, hp, hb1⟩; have HI0 : Hid _ := RInv.first hp hb1; clear hp)
      | (go_at_call 10; refine (new_any _).mono ?_; rintro e w2 ⟨rfl, hw2⟩; subst hw2))
    clear hb1
    go_loopw [7] (fun i wr => ∃ k : Nat, k ≤ l0.length ∧ i = .int .i64 k ∧ RInv w p w1.heap.size a1 k wr) (fun i _ => l0.length - (intOf i).toNat)
    case atStart => exact ⟨0, by omega, rfl, HI0.out⟩
    case round =>
      clear HI0
      generalize w1.heap.size = pc at *
      obtain ⟨k, hk, rfl, hinv⟩ := hrel
      have hbw := hinv.bel
      by_cases hlt : k < l0.length
      · have hltI : (k : Int) < (l0.length : Int) := by omega
        obtain ⟨g0, off0, rfl, hc0⟩ := HRW.out wr hbw k hlt
        have HCL : Hid (∀ y, Below w.heap.size w y → y.cell? ⟨g0, off0 + k, none⟩ = some (.int .i64 (l0.getD k 0))) := fun y hy => by
          obtain ⟨g', off', e, q⟩ := HRW.out y hy k hlt
          injection e with e
          injection e with e1 e2
          subst e1; subst e2
          exact q
        have HV : Hid (In64 (l0.getD k 0)) := HIN.out k hlt
        generalize l0.getD k 0 = v at *
        have HINV : Hid (RInv w p pc a1 k wr) := hinv
        clear hinv
        go_upto_block 2 with (go_at_call 14; refine (round_i _ _ _ HV.out (by omega) (by omega)).mono ?_; rintro e w3 ⟨⟨q, hq0, hq1, rfl⟩, hw⟩; subst hw)
        go_cut [8] (fun s8 wc => RInv w p pc a1 (k + 1) wc)
        case first =>
          by_cases hqa : q = 0
          · subst hqa
            go_wp2_with (go_at_call 15; refine (HINV.out.ret _).mono ?_; rintro e w4 ⟨⟨b, rfl⟩, h4⟩)
            go_meet
            case rel => exact h4
          · have hqa' : (q == 0) = false := by rw [beq_eq_false_iff_ne]; exact hqa
            by_cases hqb : q = 1
            · subst hqb
              go_wp2_with (go_at_call 16; refine (HINV.out.comp _).mono ?_; rintro e w4 ⟨⟨b, rfl⟩, h4⟩)
              go_meet
              case rel => exact h4
            · have hqb' : (q == 1) = false := by rw [beq_eq_false_iff_ne]; exact hqb
              have hc1 := HCL.out w3 hbw
              obtain ⟨v5, hv5⟩ : ∃ x, v.tdiv 5 = x := ⟨_, rfl⟩
              go_upto_region 12 with (go_at_call 14; refine (round_i _ _ _ (wrap_in _) (by omega) (by omega)).mono ?_; rintro e w5 ⟨⟨q4, hr0, hr1, rfl⟩, hw⟩; subst hw; obtain ⟨c4, hc4⟩ : ∃ c : Nat, (97 + q4 : Int) = (c : Int) := ⟨(97 + q4).toNat, by omega⟩; have hc4' : c4 < 256 := (by omega); have hcv := conv_one c4 hc4' (97 + q4) hc4 w5; have hq4a : IntKind.i64.wrap (97 + q4) = 97 + q4 := (by rw [IntKind.wrap_i64]; omega); have hq4b : IntKind.u8.wrap (97 + q4) = 97 + q4 := (by rw [IntKind.wrap_u8]; omega); clear hc4)
              have hinv8 := HINV.out.below (below_box (w := w5) (.cells #[.int .u8 (97 + q4)] 5))
              have hks : (strN [c4]).size = 1 := by rw [strN_size]; rfl
              clear hcv hq4a hq4b hc1
              generalize strN [c4] = kk at *
              generalize w5.alloc (.cells #[.int .u8 (97 + q4)] 5) = w6 at *
              have HI8 : Hid (RInv w p pc a1 k w6) := hinv8
              have hS0 : w6.drew.cell? ⟨g0, off0 + k, none⟩ = some (.int .i64 v) := HCL.out w6 hinv8.bel
              clear hinv8 HINV hbw
              refine wp_region_lat (fun z : World => z.cell? ⟨g0, off0 + k, none⟩ = some (.int .i64 v)) 18 (by kernel_rfl) hS0 (fun hHeld => ?_)
              refine lat_take 0 (v := ?_) rfl (by kernel_rfl) (by kernel_rfl) (by kernel_rfl) (by kernel_rfl) (fun _ _ _ h => h) (by rfl) ?_ (by assumption) ?_
              rotate_left
              · (intro w hSw; (try dsimp only at hSw); go_simp <;> with_reducible rfl)
              try simp only [Act.put, List.setIfInBounds_toArray, List.set_cons_zero, List.set_cons_succ]
              refine lat_take 1 (v := ?_) rfl (by kernel_rfl) (by kernel_rfl) (by kernel_rfl) (by kernel_rfl) (fun _ _ _ h => h) (by rfl) ?_ (by assumption) ?_
              rotate_left
              · (intro w hSw; (try dsimp only at hSw); go_simp <;> with_reducible rfl)
              try simp only [Act.put, List.setIfInBounds_toArray, List.set_cons_zero, List.set_cons_succ]
              refine lat_take 2 (v := ?_) rfl (by kernel_rfl) (by kernel_rfl) (by kernel_rfl) (by kernel_rfl) (fun _ _ _ h => h) (by rfl) ?_ (by assumption) ?_
              rotate_left
              · (intro w hSw; (try dsimp only at hSw); go_simp <;> with_reducible rfl)
              try simp only [Act.put, List.setIfInBounds_toArray, List.set_cons_zero, List.set_cons_succ]
              refine lat_take 3 (v := ?_) rfl (by kernel_rfl) (by kernel_rfl) (by kernel_rfl) (by kernel_rfl) (fun _ _ _ h => h) (by rfl) ?_ (by assumption) ?_
              rotate_left
              · (intro w hSw; (try dsimp only at hSw); go_simp <;> with_reducible rfl)
              try simp only [Act.put, List.setIfInBounds_toArray, List.set_cons_zero, List.set_cons_succ]
              refine lat_take 4 (v := ?_) rfl (by kernel_rfl) (by kernel_rfl) (by kernel_rfl) (by kernel_rfl) (fun _ _ _ h => h) (by rfl) ?_ (by assumption) ?_
              rotate_left
              · (intro w hSw; (try dsimp only at hSw); go_simp <;> with_reducible rfl)
              try simp only [Act.put, List.setIfInBounds_toArray, List.set_cons_zero, List.set_cons_succ]
              refine lat_take 5 (v := ?_) rfl (by kernel_rfl) (by kernel_rfl) (by kernel_rfl) (by kernel_rfl) (fun _ _ _ h => h) (by rfl) ?_ (by assumption) ?_
              rotate_left
              · (intro w hSw; (try dsimp only at hSw); go_simp <;> with_reducible rfl)
              try simp only [Act.put, List.setIfInBounds_toArray, List.set_cons_zero, List.set_cons_succ]
              refine lat_take 6 (v := ?_) rfl (by kernel_rfl) (by kernel_rfl) (by kernel_rfl) (by kernel_rfl) (fun _ _ _ h => h) (by rfl) ?_ (by assumption) ?_
              rotate_left
              · (intro w hSw; (try dsimp only at hSw); go_simp <;> with_reducible rfl)
              try simp only [Act.put, List.setIfInBounds_toArray, List.set_cons_zero, List.set_cons_succ]
              refine lat_take 7 (v := ?_) rfl (by kernel_rfl) (by kernel_rfl) (by kernel_rfl) (by kernel_rfl) (fun _ _ _ h => h) (by rfl) ?_ (by assumption) ?_
              rotate_left
              · (intro w hSw; (try dsimp only at hSw); go_simp <;> with_reducible rfl)
              try simp only [Act.put, List.setIfInBounds_toArray, List.set_cons_zero, List.set_cons_succ]
              refine lat_take 8 (v := ?_) rfl (by kernel_rfl) (by kernel_rfl) (by kernel_rfl) (by kernel_rfl) (fun _ _ _ h => h) (by rfl) ?_ (by assumption) ?_
              rotate_left
              · (intro w hSw; (try dsimp only at hSw); go_simp <;> with_reducible rfl)
              try simp only [Act.put, List.setIfInBounds_toArray, List.set_cons_zero, List.set_cons_succ]
              refine lat_take 9 (v := ?_) rfl (by kernel_rfl) (by kernel_rfl) (by kernel_rfl) (by kernel_rfl) (fun _ _ _ h => h) (by rfl) ?_ (by assumption) ?_
              rotate_left
              · (intro w hSw; (try dsimp only at hSw); go_simp <;> with_reducible rfl)
              try simp only [Act.put, List.setIfInBounds_toArray, List.set_cons_zero, List.set_cons_succ]
              refine lat_take 10 (v := ?_) rfl (by kernel_rfl) (by kernel_rfl) (by kernel_rfl) (by kernel_rfl) (fun _ _ _ h => h) (by rfl) ?_ (by assumption) ?_
              rotate_left
              · (intro w hSw; (try dsimp only at hSw); go_simp <;> with_reducible rfl)
              try simp only [Act.put, List.setIfInBounds_toArray, List.set_cons_zero, List.set_cons_succ]
              refine lat_take 11 (v := ?_) rfl (by kernel_rfl) (by kernel_rfl) (by kernel_rfl) (by kernel_rfl) (fun _ _ _ h => h) (by rfl) ?_ (by assumption) ?_
              rotate_left
              · (intro w hSw; (try dsimp only at hSw); go_simp <;> with_reducible rfl)
              try simp only [Act.put, List.setIfInBounds_toArray, List.set_cons_zero, List.set_cons_succ]
              refine lat_take 12 (v := ?_) rfl (by kernel_rfl) (by kernel_rfl) (by kernel_rfl) (by kernel_rfl) (fun _ _ _ h => h) (by rfl) ?_ (by assumption) ?_
              rotate_left
              · (intro w hSw; (try dsimp only at hSw); go_simp <;> with_reducible rfl)
              try simp only [Act.put, List.setIfInBounds_toArray, List.set_cons_zero, List.set_cons_succ]
              refine lat_take 15 (v := ?_) rfl (by kernel_rfl) (by kernel_rfl) (by kernel_rfl) (by kernel_rfl) (fun _ _ _ h => h) (by rfl) ?_ (by assumption) ?_
              rotate_left
              · (intro w hSw; (try dsimp only at hSw); go_simp <;> with_reducible rfl)
              try simp only [Act.put, List.setIfInBounds_toArray, List.set_cons_zero, List.set_cons_succ]
              refine lat_one 13 rfl (by kernel_rfl) (by decide) (by rfl) (fun K hK => ?_)
              go_simp
              refine Calls.mono (some_100 _) ?_
              rintro e w7 ⟨g1, rfl, hown, hb7⟩
              have hcv7 := conv_some (someL_len 100 65) hown (someL_lt 100 65)
              have hts : (strN (someL 100 65)).size = 100 := by rw [strN_size, someL_len]
              have HI7 : Hid (RInv w p pc a1 k w7) := (HI8.out.below (Below.refl _ _).drew).below hb7
              have hS7 := HCL.out w7 HI7.out.bel
              clear hown hb7 HI8
              generalize strN (someL 100 65) = TT at *
              dsimp only
              refine hK.out _ _ hS7 (fun hHeld2 => ?_)
              clear hK
              try simp only [Act.put, List.setIfInBounds_toArray, List.set_cons_zero, List.set_cons_succ]
              refine lat_one 14 rfl (by kernel_rfl) (by decide) (by rfl) (fun K hK => ?_)
              go_simp
              refine hK.out _ _ hS7 (fun hHeld3 => ?_)
              clear hK hcv7
              try simp only [Act.put, List.setIfInBounds_toArray, List.set_cons_zero, List.set_cons_succ]
              refine lat_take 16 (v := ?_) rfl (by kernel_rfl) (by kernel_rfl) (by kernel_rfl) (by kernel_rfl) (fun _ _ _ h => h) (by rfl) ?_ (by assumption) ?_
              rotate_left
              · (intro w hSw; (try dsimp only at hSw); go_simp <;> with_reducible rfl)
              try simp only [Act.put, List.setIfInBounds_toArray, List.set_cons_zero, List.set_cons_succ]
              refine lat_one 17 rfl (by kernel_rfl) (by decide) (by rfl) (fun K hK => ?_)
              go_simp
              refine hK.out _ _ (HCL.out _ (HI7.out.below (below_box _)).bel) (fun hHeld4 => ?_)
              clear hK
              try simp only [Act.put, List.setIfInBounds_toArray, List.set_cons_zero, List.set_cons_succ]
              refine lat_last 18 rfl (by kernel_rfl) (by decide) (by kernel_rfl) (by rfl) (fun K hK => ?_)
              go_simp
              refine Calls.mono (HI7.out.app3 (by omega) _ _ _ _ (by omega) (by rw [ByteArray.size_append, hks]; decide) (by omega)) ?_
              rintro e w9 ⟨⟨x9, q9, rfl⟩, h9⟩
              dsimp only
              refine hK.out _ _ ?_
              clear hK
              try simp only [Act.put, List.setIfInBounds_toArray, List.set_cons_zero, List.set_cons_succ]
              go_wp2
              go_meet
              case rel => exact h9
        case rest =>
          obtain ⟨s0, N, hU⟩ := hcut.use (by omega)
          have hbc := hcut.bel
          have HU : Hid (RUse w p pc a1 (k + 1) wc s0 N) := hU
          have hlo := hU.lo
          have hmid := hU.mid
          have hhi := hU.hi
          have hS0 := HCL.out wc.drew hbc.drew
          have HCW : Hid (∀ z, Below wc.heap.size wc z → z.cell? ⟨g0, off0 + k, none⟩ = some (.int .i64 v)) := fun z hz => HCL.out z (hbc.trans (hz.mono hbc.size))
          obtain ⟨v7, hv7⟩ : ∃ x, v.tdiv 7 = x := ⟨_, rfl⟩
          have hwa : IntKind.i64.wrap (N - s0) = N - s0 := by rw [IntKind.wrap_i64]; omega
          have hwb : IntKind.i64.wrap (N - s0 + 1) = N - s0 + 1 := by rw [IntKind.wrap_i64]; omega
          have tok1 : True := trivial
          clear HINV hU hcut HV HCL hbw
          generalize wc = wk at *
          go_upto_region 17 with fail
          go_region_held3 (fun z : World => z.cell? ⟨g0, off0 + k, none⟩ = some (.int .i64 v)) (first | exact hS2 | exact hS0) ((first
            | (have _t := tok1; go_at_call 19; refine (HU.out.start _ (Below.refl _ _).drew).mono ?_; clear tok1 _t; rintro e w4 ⟨rfl, hw⟩; subst hw)
            | (go_at_call 20; refine (HU.out.next _ (Below.refl _ _).drew).mono ?_; rintro e w5 ⟨rfl, hb5⟩; have hb5' : Below wk.heap.size wk w5 := (Below.refl _ _).drew.trans hb5; have hS2 := HCW.out w5 hb5')
            | (go_at_call 19; refine (HU.out.start _ hb5').mono ?_; rintro e w6 ⟨rfl, hw⟩; subst hw)
            | (go_at_call 14; refine (round_i _ _ _ (wrap_inI _) (by omega) (by omega)).mono ?_; rintro e w7 ⟨⟨q7, hr0, hr1, rfl⟩, hw⟩; subst hw; have hwq : IntKind.i64.wrap (s0 + q7) = s0 + q7 := (by rw [IntKind.wrap_i64]; omega))))
          clear hS0 hS2 HCW
          go_wp2_with (first
            | (go_at_call 21; refine (HU.out.read (s0 + q7) _ (by omega) (by omega) hb5').mono ?_; rintro e w8 ⟨a8, n8, c8, rfl, hb8, hsaw⟩; have hb8' : Below wk.heap.size wk w8 := hb5'.trans (hb8.mono hb5'.size))
            | (go_at_call 19; refine (HU.out.start _ hb8').mono ?_; rintro e w9 ⟨rfl, hw⟩; subst hw)
            | (go_at_call 20; refine (HU.out.next _ hb8').mono ?_; rintro e w10 ⟨rfl, hb10⟩)
            | (go_at_call 11; refine (hsaw _ hb10).mono ?_; rintro e w11 ⟨rfl, hI11⟩))
          exact ⟨⟨k + 1, by omega, by go_num, hI11⟩, by simp [intOf]; omega⟩
      · obtain rfl : k = l0.length := by omega
        go_wp2_with (go_at_call 9; refine (HAWK.out _ hbw).mono ?_; rintro e w9 ⟨rfl, hb9⟩)
        go_ret
        exact ⟨rfl, hb9⟩
end Go.Proofs.Ytnnljdnaipjoiaa
