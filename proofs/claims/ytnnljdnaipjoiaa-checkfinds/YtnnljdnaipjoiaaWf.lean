/- CheckFinds: the walk. -/
import Derived.Test.YtnnljdnaipjoiaaSx
namespace Go.Proofs.Ytnnljdnaipjoiaa
set_option linter.unusedSimpArgs false
set_option linter.unusedVariables false
open Go.RowKit
set_option maxHeartbeats 4000000 in
set_option maxRecDepth 100000 in
theorem finds_walk (n : Nat) (wh : Int) (w : World) (hn2 : 2 ≤ n) (hn : n ≤ 30) (hw1 : -9223372036854775808 ≤ wh) (hw2 : wh ≤ 9223372036854775807) :
    Calls Try.prog 6 #[.int .i64 (n : Int), .int .i64 wh] w fun e w' => e = .returned (.bool true) ∧ Below w.heap.size w w' := by
  have HAWK : Hid (∀ y, Below w.heap.size w y → Calls Try.prog 9 #[] y fun e w' => e = .returned (.bool true) ∧ Below w.heap.size w w') := fun y hb => (awake_any y).mono fun e z ⟨h1, h2⟩ => ⟨h1, hb.trans (h2.mono hb.size)⟩
  have HK0 : Hid (AwK w.heap.size w w.heap.size ls0 (w.alloc (.cells #[.map none, .map none, .map none] 59))) := AwK.zero (Below.refl _ _) (Nat.le_refl _)
  have HN30 : Hid (n ≤ 30) := hn
  have HN2 : Hid (2 ≤ n) := hn2
  have hnI : (2 : Int) ≤ (n : Int) := by omega
  have hnJ : (n : Int) ≤ 30 := by omega
  have q1 : decide ((n : Int) < 2) = false := decide_eq_false (by omega)
  have q2 : decide (30 < (n : Int)) = false := decide_eq_false (by omega)
  go_enter Try.func6, Try.ntmps6
  go_wp2_with (first
    | (go_at_call 10; refine (new_any _).mono ?_; rintro e w2 ⟨rfl, hw2⟩; subst hw2))
  go_loopw [6, 7] (fun v i wr => ∃ (k : Nat) (ss : List Bs), k ≤ n ∧ i = .int .i64 k ∧ wr.ownsRow w.heap.size 61 5 v k (bcv ss) ∧ FRow wr k ss ∧ AwK w.heap.size w w.heap.size ls0 wr) (fun _ i _ => n - (intOf i).toNat)
  case atStart => exact ⟨0, [], by omega, rfl, World.ownsRow_nil _ _ _ _, FRow.nil _, HK0.out⟩
  case round =>
    obtain ⟨k, ss, hk, rfl, hown, hfr, haw⟩ := hrel
    have HOWN : Hid (wr.ownsRow w.heap.size 61 5 u6 k (bcv ss)) := hown
    have HFR : Hid (FRow wr k ss) := hfr
    have HAW : Hid (AwK w.heap.size w w.heap.size ls0 wr) := haw
    clear hown hfr haw
    by_cases hlt : k < n
    · have hltI : (k : Int) < (n : Int) := by omega
      have HLT : Hid (k < n) := hlt
      have HCV : Hid (∀ y : World, (convert 44 9 (.slice (some ⟨y.heap.size, 0, none⟩) 1 1)).run Try.prog (y.alloc (.cells #[.int .u8 (97 + (k : Int) % 26)] 5)) = .ok (.string (fstr k)) (y.alloc (.cells #[.int .u8 (97 + (k : Int) % 26)] 5))) := conv_fstr k
      have hcv := HCV.out wr
      have HON : Hid (∀ y, Calls Try.prog 22 #[.int .i64 (k : Int), .string (fstr k)] y fun e w' => OneB y k (fstr k) e w') := fun y => one_blk k (fstr k) y
      have HR : Hid (∀ (w3 : World) (g : Nat), Below (wr.alloc (.cells #[.int .u8 (97 + (k : Int) % 26)] 5)).heap.size (wr.alloc (.cells #[.int .u8 (97 + (k : Int) % 26)] 5)) w3 → w3.heap[g]? = some (.cells (Rc.mk false ⟨#[]⟩ true (fstr k) 0 0).cells 48 (0, 0)) →
          let X := (w3.alloc (.cells #[.int .i64 k, .int .i64 1, .int .i64 5, .int .i64 k, .slice (some ⟨g, 0, none⟩) 1 1] 61)).alloc (.cells #[.int .i64 k, .int .i64 1, .int .i64 5, .int .i64 k, .slice (some ⟨g, 0, none⟩) 1 1] 61)
          X.ownsRow w.heap.size 61 5 u6 k (bcv ss) ∧ FRow X k ss ∧ X.heap[g]? = some (.cells (frc k).cells 48 (0, 0)) ∧ AwK w.heap.size w w.heap.size ls0 X ∧ w.heap.size ≤ X.heap.size ∧ Below w.heap.size w X ∧ BCells X (some ⟨w3.heap.size + 1, 0, none⟩) [Bs.mk (fb k) (some ⟨g, 0, none⟩) 1]) := by
        intro w3 g hb3 hg3 X
        have h1 : Below wr.heap.size wr w3 := (below_box _).trans (hb3.mono (by simp))
        have h2 : Below wr.heap.size wr X := (h1.alloc h1.size _).alloc (by have := h1.size; simp; omega) _
        have haw := HAW.out.below h2
        refine ⟨own_bel61 HOWN.out h2 (Nat.le_refl _), HFR.out.below h2, ?_, haw, haw.sz, haw.bel, ?_⟩
        · have hlt := (Array.getElem?_eq_some_iff.1 hg3).1
          show ((w3.alloc _).alloc _).heap[g]? = _
          rw [Below.heap_alloc _ _ _ (by simp; omega), Below.heap_alloc _ _ _ hlt]
          exact hg3
        · have := brow_new (w3.alloc (.cells #[.int .i64 k, .int .i64 1, .int .i64 5, .int .i64 k, .slice (some ⟨g, 0, none⟩) 1 1] 61)) (Bs.mk (fb k) (some ⟨g, 0, none⟩) 1)
          rw [show (w3.alloc (.cells #[.int .i64 k, .int .i64 1, .int .i64 5, .int .i64 k, .slice (some ⟨g, 0, none⟩) 1 1] 61)).heap.size = w3.heap.size + 1 by simp] at this
          exact this
      clear HOWN HFR HAW hlt HCV
      go_wp2_with (first
        | (go_at_call 22; refine (HON.out _).mono ?_; rintro e w3 ⟨g, rfl, hg3, hb3⟩; have HX := HR.out w3 g hb3 hg3; clear hg3 hb3)
        | (at_builtin; refine wpList_append_bats (by rfl) _ _ rfl w.heap.size w _ k _ rfl HX.1 HX.2.2.2.2.2.1 HX.2.2.2.2.1 ⟨w3.heap.size + 1, 0, none⟩ 1 [Bs.mk (fb k) (some ⟨g, 0, none⟩) 1] rfl HX.2.2.2.2.2.2 (by have := HN30.out; have := HLT.out; simp; omega) ?_; intro v4 w4 hown4 hb4 hg4; have HY : Hid (w4.ownsRow w.heap.size 61 5 v4 (k + 1) (bcv (ss ++ [Bs.mk (fb k) (some ⟨g, 0, none⟩) 1])) ∧ FRow w4 (k + 1) (ss ++ [Bs.mk (fb k) (some ⟨g, 0, none⟩) 1]) ∧ AwK w.heap.size w w.heap.size ls0 w4) := ⟨by rw [bcv_app]; exact hown4, (HX.2.1.snoc HX.2.2.1).grown hg4 (own_blk61 HX.1), HX.2.2.2.1.grown hg4 (own_blk HX.1)⟩; clear hown4 hb4 hg4 HX))
      have hlt := HLT.out
      exact ⟨⟨k + 1, _, by omega, by go_num, HY.out.1, HY.out.2.1, HY.out.2.2⟩, by simp [intOf]; omega⟩
    · obtain rfl : k = n := by omega
      have hr6 : (wh % 6).toNat < 6 := by have := Int.emod_nonneg wh (show (6 : Int) ≠ 0 by decide); have := Int.emod_lt_of_pos wh (show (0 : Int) < 6 by decide); omega
      have hRD := fun y => round_any wh 6 y hw1 hw2 (by decide) (by decide)
      generalize (wh % 6).toNat = r at hr6 hRD
      obtain ⟨gl, cl, rfl, hl⟩ := LRow.form HOWN.out HFR.out (by have := HN2.out; omega)
      have HL : Hid (LRow wr w.heap.size gl cl k ss) := hl
      have HBS : Hid (bsOf ss = fl k) := HFR.out.bs
      have HS1 : Hid (∀ y, AwK w.heap.size w w.heap.size ls0 y → LRow y w.heap.size gl cl k ss → Calls Try.prog 11 #[.pointer (some ⟨w.heap.size, 0, none⟩), .string ⟨#[116]⟩, .int .i64 1, .int .i64 0, .int .i64 (k : Int), .int .i64 0, .slice (some ⟨gl, 0, none⟩) k cl] y fun e z => e = .returned (.int .i64 0) ∧ AwK w.heap.size w w.heap.size (f1 k) z ∧ LRow z w.heap.size gl cl k ss) := fun y h1 h2 =>
        (step_saw h1 (h2.inn HN30.out) h2.row.len HBS.out 0 k 0 0 (ff1 ⟨k, by have := HN30.out; omega⟩)).mono fun e z ⟨q1, q2, q3⟩ => ⟨q1, q2, h2.tk q3⟩
      have HS2 : Hid (∀ y, AwK w.heap.size w w.heap.size (f1 k) y → LRow y w.heap.size gl cl k ss → Calls Try.prog 11 #[.pointer (some ⟨w.heap.size, 0, none⟩), .string ⟨#[116]⟩, .int .i64 1, .int .i64 0, .int .i64 (k : Int), .int .i64 0, .slice (some ⟨gl, 0, none⟩) k cl] y fun e z => e = .returned (.int .i64 0) ∧ AwK w.heap.size w w.heap.size (f2 k) z ∧ LRow z w.heap.size gl cl k ss) := fun y h1 h2 =>
        (step_saw h1 (h2.inn HN30.out) h2.row.len HBS.out 0 k 0 0 (ff2 ⟨k, by have := HN30.out; omega⟩)).mono fun e z ⟨q1, q2, q3⟩ => ⟨q1, q2, h2.tk q3⟩
      have HNC : Hid (∀ y, LRow y w.heap.size gl cl k ss → BCells (y.alloc (.cells #[] 61)) (some ⟨gl, 0, none⟩) ss ∧ ss.length = k) := fun y h => ⟨(h.bel (below_box _)).cells, h.row.len⟩
      clear HOWN HFR hl
      rcases (show r = 0 ∨ r = 1 ∨ r = 2 ∨ r = 3 ∨ r = 4 ∨ r = 5 by omega) with rfl | rfl | rfl | rfl | rfl | rfl
      · have HRD : Hid (∀ y, Calls Try.prog 14 #[.int .i64 wh, .int .i64 6] y fun e w' => e = .returned (.int .i64 0) ∧ w' = y) := hRD
        clear hRD
        have HC : Hid (∀ y, AwK w.heap.size w w.heap.size (f2 k) y → Calls Try.prog 11 #[.pointer (some ⟨w.heap.size, 0, none⟩), .string ⟨#[116]⟩, .int .i64 1, .int .i64 (0), .int .i64 ((k : Int) - 1), .int .i64 0, .slice none 0 0] y fun e z => e = .returned (.int .i64 1) ∧ Below w.heap.size w z) := fun y h1 => (step_saw h1 (bin_nil y) rfl rfl (0) ((k : Int) - 1) 0 1 (fc0 ⟨k, by have := HN30.out; omega⟩ HN2.out)).mono fun e z ⟨q1, q2, q3⟩ => ⟨q1, q2.bel⟩
        go_wp2_with (first
          | (go_at_call 11; refine (HS1.out _ HAW.out HL.out).mono ?_; rintro e w5 ⟨rfl, h51, h52⟩; have HAW5 : Hid (AwK w.heap.size w w.heap.size (f1 k) w5) := h51; have HL5 : Hid (LRow w5 w.heap.size gl cl k ss) := h52; clear HAW HL h51 h52)
          | (go_at_call 11; refine (HS2.out _ HAW5.out HL5.out).mono ?_; rintro e w6 ⟨rfl, h61, h62⟩; have HAW6 : Hid (AwK w.heap.size w w.heap.size (f2 k) w6) := h61; have HL6 : Hid (LRow w6 w.heap.size gl cl k ss) := h62; clear HAW5 HL5 h61 h62)
          | (at_builtin; refine wpList_append_bats (by rfl) _ _ rfl w6.heap.size w6 _ 0 _ rfl (x_hown w6) (below_box _) (by simp) ⟨gl, 0, none⟩ cl ss (by rw [(HNC.out w6 HL6.out).2]; rfl) (HNC.out w6 HL6.out).1 (by have := HN30.out; have := (HNC.out w6 HL6.out).2; omega) ?_; intro v7 w7 hown7 hb7 hg7; obtain ⟨gx, cx, rfl, hx1, hx2, hx3, hx4⟩ := x_row HAW6.out HL6.out hown7 hg7 HN2.out; have HAW7 : Hid (AwK w.heap.size w w.heap.size (f2 k) w7) := hx3; have HL7 : Hid (LRow w7 w.heap.size gl cl k ss) := hx2; have HX7 : Hid (LRow w7 w6.heap.size gx cx k ss ∧ w.heap.size ≤ gx) := ⟨hx1, hx4⟩; clear HAW6 HL6 hown7 hb7 hg7 hx1 hx2 hx3 hx4)
          | (go_at_call 14; refine (HRD.out _).mono ?_; rintro e w8 ⟨rfl, rfl⟩)
          | (go_at_call 9; refine (HAWK.out _ (by assumption)).mono ?_; rintro e w9 ⟨rfl, hb9⟩)
          | (go_at_call 11; refine (HC.out _ HAW7.out).mono ?_; rintro e w8 ⟨rfl, hb8⟩))
        go_ret
        exact ⟨rfl, hb9⟩
      · have HRD : Hid (∀ y, Calls Try.prog 14 #[.int .i64 wh, .int .i64 6] y fun e w' => e = .returned (.int .i64 1) ∧ w' = y) := hRD
        clear hRD
        have HC : Hid (∀ y, AwK w.heap.size w w.heap.size (f2 k) y → Calls Try.prog 11 #[.pointer (some ⟨w.heap.size, 0, none⟩), .string ⟨#[116]⟩, .int .i64 1, .int .i64 ((k : Int) + 1), .int .i64 ((k : Int)), .int .i64 0, .slice none 0 0] y fun e z => e = .returned (.int .i64 1) ∧ Below w.heap.size w z) := fun y h1 => (step_saw h1 (bin_nil y) rfl rfl ((k : Int) + 1) ((k : Int)) 0 1 (fc1 ⟨k, by have := HN30.out; omega⟩ HN2.out)).mono fun e z ⟨q1, q2, q3⟩ => ⟨q1, q2.bel⟩
        go_wp2_with (first
          | (go_at_call 11; refine (HS1.out _ HAW.out HL.out).mono ?_; rintro e w5 ⟨rfl, h51, h52⟩; have HAW5 : Hid (AwK w.heap.size w w.heap.size (f1 k) w5) := h51; have HL5 : Hid (LRow w5 w.heap.size gl cl k ss) := h52; clear HAW HL h51 h52)
          | (go_at_call 11; refine (HS2.out _ HAW5.out HL5.out).mono ?_; rintro e w6 ⟨rfl, h61, h62⟩; have HAW6 : Hid (AwK w.heap.size w w.heap.size (f2 k) w6) := h61; have HL6 : Hid (LRow w6 w.heap.size gl cl k ss) := h62; clear HAW5 HL5 h61 h62)
          | (at_builtin; refine wpList_append_bats (by rfl) _ _ rfl w6.heap.size w6 _ 0 _ rfl (x_hown w6) (below_box _) (by simp) ⟨gl, 0, none⟩ cl ss (by rw [(HNC.out w6 HL6.out).2]; rfl) (HNC.out w6 HL6.out).1 (by have := HN30.out; have := (HNC.out w6 HL6.out).2; omega) ?_; intro v7 w7 hown7 hb7 hg7; obtain ⟨gx, cx, rfl, hx1, hx2, hx3, hx4⟩ := x_row HAW6.out HL6.out hown7 hg7 HN2.out; have HAW7 : Hid (AwK w.heap.size w w.heap.size (f2 k) w7) := hx3; have HL7 : Hid (LRow w7 w.heap.size gl cl k ss) := hx2; have HX7 : Hid (LRow w7 w6.heap.size gx cx k ss ∧ w.heap.size ≤ gx) := ⟨hx1, hx4⟩; clear HAW6 HL6 hown7 hb7 hg7 hx1 hx2 hx3 hx4)
          | (go_at_call 14; refine (HRD.out _).mono ?_; rintro e w8 ⟨rfl, rfl⟩)
          | (go_at_call 9; refine (HAWK.out _ (by assumption)).mono ?_; rintro e w9 ⟨rfl, hb9⟩)
          | (go_at_call 11; refine (HC.out _ HAW7.out).mono ?_; rintro e w8 ⟨rfl, hb8⟩))
        go_ret
        exact ⟨rfl, hb9⟩
      · have HRD : Hid (∀ y, Calls Try.prog 14 #[.int .i64 wh, .int .i64 6] y fun e w' => e = .returned (.int .i64 2) ∧ w' = y) := hRD
        clear hRD
        go_wp2_with (first
          | (go_at_call 11; refine (HS1.out _ HAW.out HL.out).mono ?_; rintro e w5 ⟨rfl, h51, h52⟩; have HAW5 : Hid (AwK w.heap.size w w.heap.size (f1 k) w5) := h51; have HL5 : Hid (LRow w5 w.heap.size gl cl k ss) := h52; clear HAW HL h51 h52)
          | (go_at_call 11; refine (HS2.out _ HAW5.out HL5.out).mono ?_; rintro e w6 ⟨rfl, h61, h62⟩; have HAW6 : Hid (AwK w.heap.size w w.heap.size (f2 k) w6) := h61; have HL6 : Hid (LRow w6 w.heap.size gl cl k ss) := h62; clear HAW5 HL5 h61 h62)
          | (at_builtin; refine wpList_append_bats (by rfl) _ _ rfl w6.heap.size w6 _ 0 _ rfl (x_hown w6) (below_box _) (by simp) ⟨gl, 0, none⟩ cl ss (by rw [(HNC.out w6 HL6.out).2]; rfl) (HNC.out w6 HL6.out).1 (by have := HN30.out; have := (HNC.out w6 HL6.out).2; omega) ?_; intro v7 w7 hown7 hb7 hg7; obtain ⟨gx, cx, rfl, hx1, hx2, hx3, hx4⟩ := x_row HAW6.out HL6.out hown7 hg7 HN2.out; have HAW7 : Hid (AwK w.heap.size w w.heap.size (f2 k) w7) := hx3; have HL7 : Hid (LRow w7 w.heap.size gl cl k ss) := hx2; have HX7 : Hid (LRow w7 w6.heap.size gx cx k ss ∧ w.heap.size ≤ gx) := ⟨hx1, hx4⟩; clear HAW6 HL6 hown7 hb7 hg7 hx1 hx2 hx3 hx4)
          | (go_at_call 14; refine (HRD.out _).mono ?_; rintro e w8 ⟨rfl, rfl⟩)
          | (go_at_call 9; refine (HAWK.out _ (by assumption)).mono ?_; rintro e w9 ⟨rfl, hb9⟩))
        have HYD : Hid (Below w8.heap.size w8 w8.drew) := below_drewN (Below.refl _ _) 1
        obtain ⟨hs0, hs1, hs2, hs3⟩ := swc_of (HX7.out.1.bel HYD.out) HN2.out
        have HCS : Hid (Calls Try.prog 11 #[.pointer (some ⟨w.heap.size, 0, none⟩), .string ⟨#[116]⟩, .int .i64 1, .int .i64 0, .int .i64 (k : Int), .int .i64 0, .slice (some ⟨gx, 0, none⟩) k cx] ((w8.drew.setCells gx 0 (ss.getD 1 bsz).cells.toList).setCells gx 5 (ss.getD 0 bsz).cells.toList) fun e z => e = .returned (.int .i64 2) ∧ Below w.heap.size w z) := swap_saw (HAW7.out.below HYD.out) (HX7.out.1.bel HYD.out) HN2.out HN30.out HX7.out.2 2 (fc2 ⟨k, by have := HN30.out; omega⟩ HN2.out)
        generalize ss.getD 0 bsz = s0 at hs0 hs1 hs2 hs3 HCS
        generalize ss.getD 1 bsz = s1 at hs0 hs1 hs2 hs3 HCS
        have z1 : (1 : Int) < (k : Int) := by have := HN2.out; omega
        have z0 : 0 < k := by have := HN2.out; omega
        refine wp_region_lat (fun _ => True) 11 (by kernel_rfl) trivial (fun _ => ?_)
        refine lat_take 0 (v := ?_) rfl (by kernel_rfl) (by kernel_rfl) (by kernel_rfl) (by kernel_rfl) (fun _ _ _ h => h) (by rfl) ?_ trivial ?_
        rotate_left
        · (intro w hSw; go_simp <;> with_reducible rfl)
        try simp only [Act.put, List.setIfInBounds_toArray, List.set_cons_zero, List.set_cons_succ]
        refine lat_take 1 (v := ?_) rfl (by kernel_rfl) (by kernel_rfl) (by kernel_rfl) (by kernel_rfl) (fun _ _ _ h => h) (by rfl) ?_ trivial ?_
        rotate_left
        · (intro w hSw; go_simp <;> with_reducible rfl)
        try simp only [Act.put, List.setIfInBounds_toArray, List.set_cons_zero, List.set_cons_succ]
        refine lat_take 2 (v := ?_) rfl (by kernel_rfl) (by kernel_rfl) (by kernel_rfl) (by kernel_rfl) (fun _ _ _ h => h) (by rfl) ?_ trivial ?_
        rotate_left
        · (intro w hSw; go_simp <;> with_reducible rfl)
        try simp only [Act.put, List.setIfInBounds_toArray, List.set_cons_zero, List.set_cons_succ]
        refine lat_take 5 (v := ?_) rfl (by kernel_rfl) (by kernel_rfl) (by kernel_rfl) (by kernel_rfl) (fun _ _ _ h => h) (by rfl) ?_ trivial ?_
        rotate_left
        · (intro w hSw; go_simp <;> with_reducible rfl)
        try simp only [Act.put, List.setIfInBounds_toArray, List.set_cons_zero, List.set_cons_succ]
        refine lat_take 3 (v := ?_) rfl (by kernel_rfl) (by kernel_rfl) (by kernel_rfl) (by kernel_rfl) (fun _ _ _ h => h) (by rfl) ?_ trivial ?_
        rotate_left
        · (intro w hSw; go_simp <;> with_reducible rfl)
        try simp only [Act.put, List.setIfInBounds_toArray, List.set_cons_zero, List.set_cons_succ]
        refine lat_take 6 (v := ?_) rfl (by kernel_rfl) (by kernel_rfl) (by kernel_rfl) (by kernel_rfl) (fun _ _ _ h => h) (by rfl) ?_ trivial ?_
        rotate_left
        · (intro w hSw; go_simp <;> with_reducible rfl)
        try simp only [Act.put, List.setIfInBounds_toArray, List.set_cons_zero, List.set_cons_succ]
        refine lat_two 4 7 rfl rfl (by kernel_rfl) (by decide) (by decide) (by rfl) (by rfl) (fun K hK => ?_) (fun K hK => ?_)
        · refine wp_load_mid 61 _ rfl gx 5 ?_ s1.cells.toList _ hs1 Try.underlying61 rfl Try.info61s ?_
          · go_simp
          refine hK.out _ _ trivial (fun _ => ?_)
          clear hK
          try simp only [Act.put, List.setIfInBounds_toArray, List.set_cons_zero, List.set_cons_succ]
          refine lat_one 7 rfl (by kernel_rfl) (by decide) (by rfl) (fun K hK => ?_)
          refine wp_load_mid 61 _ rfl gx 0 ?_ s0.cells.toList _ hs0 Try.underlying61 rfl Try.info61s ?_
          · go_simp
          refine hK.out _ _ trivial (fun _ => ?_)
          clear hK
          try simp only [Act.put, List.setIfInBounds_toArray, List.set_cons_zero, List.set_cons_succ]
          refine lat_one 8 rfl (by kernel_rfl) (by decide) (by rfl) (fun K hK => ?_)
          go_simp
          refine hK.out _ _ trivial (fun _ => ?_)
          clear hK
          try simp only [Act.put, List.setIfInBounds_toArray, List.set_cons_zero, List.set_cons_succ]
          refine lat_one 9 rfl (by kernel_rfl) (by decide) (by rfl) (fun K hK => ?_)
          refine wp_store_mid 61 _ _ rfl gx 0 s1.cells.toList.toArray ?_ ?_ hs2 Try.info61s (all_bs2 s1) ?_
          · go_simp
          · go_simp
          refine hK.out _ _ trivial (fun _ => ?_)
          clear hK
          try simp only [Act.put, List.setIfInBounds_toArray, List.set_cons_zero, List.set_cons_succ]
          refine lat_one 10 rfl (by kernel_rfl) (by decide) (by rfl) (fun K hK => ?_)
          go_simp
          refine hK.out _ _ trivial (fun _ => ?_)
          clear hK
          try simp only [Act.put, List.setIfInBounds_toArray, List.set_cons_zero, List.set_cons_succ]
          refine lat_last 11 rfl (by kernel_rfl) (by decide) (by kernel_rfl) (by rfl) (fun K hK => ?_)
          refine wp_store_mid 61 _ _ rfl gx 5 s0.cells.toList.toArray ?_ ?_ (hs3 _) Try.info61s (all_bs2 s0) ?_
          · go_simp
          · go_simp
          refine hK.out _ _ ?_
          clear hK hs0 hs1 hs2 hs3
          have HC8 : Hid (Calls Try.prog 11 #[.pointer (some ⟨w.heap.size, 0, none⟩), .string ⟨#[116]⟩, .int .i64 1, .int .i64 0, .int .i64 (k : Int), .int .i64 0, .slice (some ⟨gx, 0, none⟩) k cx] ((w8.drew.setCells gx 0 s1.cells.toList.toArray.toList).setCells gx 5 s0.cells.toList.toArray.toList) fun e z => e = .returned (.int .i64 2) ∧ Below w.heap.size w z) := HCS.out
          revert HC8
          generalize (w8.drew.setCells gx 0 s1.cells.toList.toArray.toList).setCells gx 5 s0.cells.toList.toArray.toList = X8
          intro HC8
          clear HCS
          try simp only [Act.put, List.setIfInBounds_toArray, List.set_cons_zero, List.set_cons_succ]
          go_wp2_with (first
            | (go_at_call 11; refine HC8.out.mono ?_; rintro e w9 ⟨rfl, hb9⟩)
            | (go_at_call 9; refine (HAWK.out _ (by assumption)).mono ?_; rintro e w9 ⟨rfl, hb9⟩))
          go_ret
          exact ⟨rfl, hb9⟩
        · refine wp_load_mid 61 _ rfl gx 0 ?_ s0.cells.toList _ hs0 Try.underlying61 rfl Try.info61s ?_
          · go_simp
          refine hK.out _ _ trivial (fun _ => ?_)
          clear hK
          try simp only [Act.put, List.setIfInBounds_toArray, List.set_cons_zero, List.set_cons_succ]
          refine lat_one 4 rfl (by kernel_rfl) (by decide) (by rfl) (fun K hK => ?_)
          refine wp_load_mid 61 _ rfl gx 5 ?_ s1.cells.toList _ hs1 Try.underlying61 rfl Try.info61s ?_
          · go_simp
          refine hK.out _ _ trivial (fun _ => ?_)
          clear hK
          try simp only [Act.put, List.setIfInBounds_toArray, List.set_cons_zero, List.set_cons_succ]
          refine lat_one 8 rfl (by kernel_rfl) (by decide) (by rfl) (fun K hK => ?_)
          go_simp
          refine hK.out _ _ trivial (fun _ => ?_)
          clear hK
          try simp only [Act.put, List.setIfInBounds_toArray, List.set_cons_zero, List.set_cons_succ]
          refine lat_one 9 rfl (by kernel_rfl) (by decide) (by rfl) (fun K hK => ?_)
          refine wp_store_mid 61 _ _ rfl gx 0 s1.cells.toList.toArray ?_ ?_ hs2 Try.info61s (all_bs2 s1) ?_
          · go_simp
          · go_simp
          refine hK.out _ _ trivial (fun _ => ?_)
          clear hK
          try simp only [Act.put, List.setIfInBounds_toArray, List.set_cons_zero, List.set_cons_succ]
          refine lat_one 10 rfl (by kernel_rfl) (by decide) (by rfl) (fun K hK => ?_)
          go_simp
          refine hK.out _ _ trivial (fun _ => ?_)
          clear hK
          try simp only [Act.put, List.setIfInBounds_toArray, List.set_cons_zero, List.set_cons_succ]
          refine lat_last 11 rfl (by kernel_rfl) (by decide) (by kernel_rfl) (by rfl) (fun K hK => ?_)
          refine wp_store_mid 61 _ _ rfl gx 5 s0.cells.toList.toArray ?_ ?_ (hs3 _) Try.info61s (all_bs2 s0) ?_
          · go_simp
          · go_simp
          refine hK.out _ _ ?_
          clear hK hs0 hs1 hs2 hs3
          have HC8 : Hid (Calls Try.prog 11 #[.pointer (some ⟨w.heap.size, 0, none⟩), .string ⟨#[116]⟩, .int .i64 1, .int .i64 0, .int .i64 (k : Int), .int .i64 0, .slice (some ⟨gx, 0, none⟩) k cx] ((w8.drew.setCells gx 0 s1.cells.toList.toArray.toList).setCells gx 5 s0.cells.toList.toArray.toList) fun e z => e = .returned (.int .i64 2) ∧ Below w.heap.size w z) := HCS.out
          revert HC8
          generalize (w8.drew.setCells gx 0 s1.cells.toList.toArray.toList).setCells gx 5 s0.cells.toList.toArray.toList = X8
          intro HC8
          clear HCS
          try simp only [Act.put, List.setIfInBounds_toArray, List.set_cons_zero, List.set_cons_succ]
          go_wp2_with (first
            | (go_at_call 11; refine HC8.out.mono ?_; rintro e w9 ⟨rfl, hb9⟩)
            | (go_at_call 9; refine (HAWK.out _ (by assumption)).mono ?_; rintro e w9 ⟨rfl, hb9⟩))
          go_ret
          exact ⟨rfl, hb9⟩
      · have HRD : Hid (∀ y, Calls Try.prog 14 #[.int .i64 wh, .int .i64 6] y fun e w' => e = .returned (.int .i64 3) ∧ w' = y) := hRD
        clear hRD
        have HC : Hid (∀ y g B c, AwK w.heap.size w w.heap.size (f2 k) y → LRow y B g c k ss → Calls Try.prog 11 #[.pointer (some ⟨w.heap.size, 0, none⟩), .string ⟨#[116]⟩, .int .i64 1, .int .i64 (0), .int .i64 ((k : Int)), .int .i64 1, .slice (some ⟨g, 0, none⟩) k c] y fun e z => e = .returned (.int .i64 2) ∧ Below w.heap.size w z) := fun y g B c h1 h2 => (step_saw h1 (h2.inn HN30.out) h2.row.len HBS.out (0) ((k : Int)) 1 2 (fc3 ⟨k, by have := HN30.out; omega⟩ HN2.out)).mono fun e z ⟨q1, q2, q3⟩ => ⟨q1, q2.bel⟩
        go_wp2_with (first
          | (go_at_call 11; refine (HS1.out _ HAW.out HL.out).mono ?_; rintro e w5 ⟨rfl, h51, h52⟩; have HAW5 : Hid (AwK w.heap.size w w.heap.size (f1 k) w5) := h51; have HL5 : Hid (LRow w5 w.heap.size gl cl k ss) := h52; clear HAW HL h51 h52)
          | (go_at_call 11; refine (HS2.out _ HAW5.out HL5.out).mono ?_; rintro e w6 ⟨rfl, h61, h62⟩; have HAW6 : Hid (AwK w.heap.size w w.heap.size (f2 k) w6) := h61; have HL6 : Hid (LRow w6 w.heap.size gl cl k ss) := h62; clear HAW5 HL5 h61 h62)
          | (at_builtin; refine wpList_append_bats (by rfl) _ _ rfl w6.heap.size w6 _ 0 _ rfl (x_hown w6) (below_box _) (by simp) ⟨gl, 0, none⟩ cl ss (by rw [(HNC.out w6 HL6.out).2]; rfl) (HNC.out w6 HL6.out).1 (by have := HN30.out; have := (HNC.out w6 HL6.out).2; omega) ?_; intro v7 w7 hown7 hb7 hg7; obtain ⟨gx, cx, rfl, hx1, hx2, hx3, hx4⟩ := x_row HAW6.out HL6.out hown7 hg7 HN2.out; have HAW7 : Hid (AwK w.heap.size w w.heap.size (f2 k) w7) := hx3; have HL7 : Hid (LRow w7 w.heap.size gl cl k ss) := hx2; have HX7 : Hid (LRow w7 w6.heap.size gx cx k ss ∧ w.heap.size ≤ gx) := ⟨hx1, hx4⟩; clear HAW6 HL6 hown7 hb7 hg7 hx1 hx2 hx3 hx4)
          | (go_at_call 14; refine (HRD.out _).mono ?_; rintro e w8 ⟨rfl, rfl⟩)
          | (go_at_call 9; refine (HAWK.out _ (by assumption)).mono ?_; rintro e w9 ⟨rfl, hb9⟩)
          | (go_at_call 11; refine (HC.out _ _ _ _ HAW7.out HX7.out.1).mono ?_; rintro e w8 ⟨rfl, hb8⟩))
        go_ret
        exact ⟨rfl, hb9⟩
      · have HRD : Hid (∀ y, Calls Try.prog 14 #[.int .i64 wh, .int .i64 6] y fun e w' => e = .returned (.int .i64 4) ∧ w' = y) := hRD
        clear hRD
        have HON2 : Hid (∀ y, Calls Try.prog 22 #[.int .i64 1, .string ⟨#[111, 116, 104, 101, 114]⟩] y fun e w' => OneB y 1 fother.other' e w') := fun y => one_blk 1 fother.other' y
        have HC : Hid (∀ y B g c g', AwK w.heap.size w w.heap.size (f2 k) y → LRow y B g c k ss → w.heap.size ≤ g → y.heap[g']? = some (.cells (Rc.mk false ⟨#[]⟩ true fother.other' 0 0).cells 48 (0, 0)) → Calls Try.prog 11 #[.pointer (some ⟨w.heap.size, 0, none⟩), .string ⟨#[116]⟩, .int .i64 1, .int .i64 0, .int .i64 (k : Int), .int .i64 0, .slice (some ⟨g, 0, none⟩) k c] (y.setCells g 5 [.int .i64 1, .int .i64 1, .int .i64 0, .int .i64 0, .slice (some ⟨g', 0, none⟩) 1 1]) fun e z => e = .returned (.int .i64 3) ∧ Below w.heap.size w z) := fun y B g c g' h1 h2 h3 h4 => other_saw h1 h2 HN2.out HN30.out h3 h4 3 (fc4 ⟨k, by have := HN30.out; omega⟩ HN2.out)
        have HT : Hid (∀ y B g c, LRow y B g c k ss → y.there g 5 5) := fun y B g c h => bc_there h 1 HN2.out
        have hc61 := cells61
        go_wp2_with (first
          | (go_at_call 11; refine (HS1.out _ HAW.out HL.out).mono ?_; rintro e w5 ⟨rfl, h51, h52⟩; have HAW5 : Hid (AwK w.heap.size w w.heap.size (f1 k) w5) := h51; have HL5 : Hid (LRow w5 w.heap.size gl cl k ss) := h52; clear HAW HL h51 h52)
          | (go_at_call 11; refine (HS2.out _ HAW5.out HL5.out).mono ?_; rintro e w6 ⟨rfl, h61, h62⟩; have HAW6 : Hid (AwK w.heap.size w w.heap.size (f2 k) w6) := h61; have HL6 : Hid (LRow w6 w.heap.size gl cl k ss) := h62; clear HAW5 HL5 h61 h62)
          | (at_builtin; refine wpList_append_bats (by rfl) _ _ rfl w6.heap.size w6 _ 0 _ rfl (x_hown w6) (below_box _) (by simp) ⟨gl, 0, none⟩ cl ss (by rw [(HNC.out w6 HL6.out).2]; rfl) (HNC.out w6 HL6.out).1 (by have := HN30.out; have := (HNC.out w6 HL6.out).2; omega) ?_; intro v7 w7 hown7 hb7 hg7; obtain ⟨gx, cx, rfl, hx1, hx2, hx3, hx4⟩ := x_row HAW6.out HL6.out hown7 hg7 HN2.out; have HAW7 : Hid (AwK w.heap.size w w.heap.size (f2 k) w7) := hx3; have HL7 : Hid (LRow w7 w.heap.size gl cl k ss) := hx2; have HX7 : Hid (LRow w7 w6.heap.size gx cx k ss ∧ w.heap.size ≤ gx) := ⟨hx1, hx4⟩; clear HAW6 HL6 hown7 hb7 hg7 hx1 hx2 hx3 hx4)
          | (go_at_call 14; refine (HRD.out _).mono ?_; rintro e w8 ⟨rfl, rfl⟩)
          | (go_at_call 9; refine (HAWK.out _ (by assumption)).mono ?_; rintro e w9 ⟨rfl, hb9⟩)
          | (go_at_call 22; refine (HON2.out _).mono ?_; rintro e w8 ⟨g8, rfl, hg8, hb8⟩; have HG8 : Hid (w8.heap[g8]? = some (.cells (Rc.mk false ⟨#[]⟩ true fother.other' 0 0).cells 48 (0, 0)) ∧ AwK w.heap.size w w.heap.size (f2 k) w8 ∧ LRow w8 w6.heap.size gx cx k ss) := ⟨hg8, HAW7.out.below hb8, HX7.out.1.bel hb8⟩; clear hg8 hb8)
          | (refine wpList_store_mid rfl 61 _ _ rfl gx 5 #[.int .i64 1, .int .i64 1, .int .i64 0, .int .i64 0, .slice (some ⟨g8, 0, none⟩) 1 1] ?_ ?_ (HT.out w8 _ gx cx HG8.out.2.2) Try.info61s (all5 _ _ _ _ _ _ _) ?_; go_simp; go_simp; have HC8 : Hid (Calls Try.prog 11 #[.pointer (some ⟨w.heap.size, 0, none⟩), .string ⟨#[116]⟩, .int .i64 1, .int .i64 0, .int .i64 (k : Int), .int .i64 0, .slice (some ⟨gx, 0, none⟩) k cx] (w8.setCells gx 5 (#[.int .i64 1, .int .i64 1, .int .i64 0, .int .i64 0, .slice (some ⟨g8, 0, none⟩) 1 1] : Array Value).toList) fun e z => e = .returned (.int .i64 3) ∧ Below w.heap.size w z) := HC.out _ _ _ _ _ HG8.out.2.1 HG8.out.2.2 HX7.out.2 HG8.out.1; revert HC8; generalize w8.setCells gx 5 _ = X8; intro HC8; simp only [Act.put])
          | (go_at_call 11; refine HC8.out.mono ?_; rintro e w9 ⟨rfl, hb9⟩))
        go_ret
        exact ⟨rfl, hb9⟩
      · have HRD : Hid (∀ y, Calls Try.prog 14 #[.int .i64 wh, .int .i64 6] y fun e w' => e = .returned (.int .i64 5) ∧ w' = y) := hRD
        clear hRD
        have HON2 : Hid (∀ y, Calls Try.prog 22 #[.int .i64 (k : Int), .string ⟨#[122]⟩] y fun e w' => OneB y k ⟨#[122]⟩ e w') := fun y => one_blk k ⟨#[122]⟩ y
        have HC : Hid (∀ y B g c g', AwK w.heap.size w w.heap.size (f2 k) y → LRow y B g c k ss → y.heap[g']? = some (.cells (Rc.mk false ⟨#[]⟩ true ⟨#[122]⟩ 0 0).cells 48 (0, 0)) → Calls Try.prog 11 #[.pointer (some ⟨w.heap.size, 0, none⟩), .string ⟨#[116]⟩, .int .i64 1, .int .i64 0, .int .i64 ((k : Int) + 1), .int .i64 (k : Int), .slice (some ⟨y.heap.size + 1, 0, none⟩) 1 1] ((y.alloc (.cells #[.int .i64 k, .int .i64 1, .int .i64 5, .int .i64 0, .slice (some ⟨g', 0, none⟩) 1 1] 61)).alloc (.cells #[.int .i64 k, .int .i64 1, .int .i64 5, .int .i64 0, .slice (some ⟨g', 0, none⟩) 1 1] 61)) fun e z => e = .returned (.int .i64 4) ∧ AwK w.heap.size w w.heap.size (f3 k) z ∧ LRow z B g c k ss) := fun y B g c g' h1 h2 h3 => (z_saw h1 HN30.out h3 4 (fc5 ⟨k, by have := HN30.out; omega⟩ HN2.out)).mono fun e z ⟨q1, q2, q3⟩ => ⟨q1, q2, h2.tk q3⟩
        have HC6 : Hid (∀ y, AwK w.heap.size w w.heap.size (f3 k) y → LRow y w.heap.size gl cl k ss → Calls Try.prog 11 #[.pointer (some ⟨w.heap.size, 0, none⟩), .string ⟨#[116]⟩, .int .i64 1, .int .i64 0, .int .i64 (k : Int), .int .i64 0, .slice (some ⟨gl, 0, none⟩) k cl] y fun e z => e = .returned (.int .i64 0) ∧ Below w.heap.size w z) := fun y h1 h2 => (step_saw h1 (h2.inn HN30.out) h2.row.len HBS.out 0 k 0 0 (fc6 ⟨k, by have := HN30.out; omega⟩ HN2.out)).mono fun e z ⟨q1, q2, q3⟩ => ⟨q1, q2.bel⟩
        go_wp2_with (first
          | (go_at_call 11; refine (HS1.out _ HAW.out HL.out).mono ?_; rintro e w5 ⟨rfl, h51, h52⟩; have HAW5 : Hid (AwK w.heap.size w w.heap.size (f1 k) w5) := h51; have HL5 : Hid (LRow w5 w.heap.size gl cl k ss) := h52; clear HAW HL h51 h52)
          | (go_at_call 11; refine (HS2.out _ HAW5.out HL5.out).mono ?_; rintro e w6 ⟨rfl, h61, h62⟩; have HAW6 : Hid (AwK w.heap.size w w.heap.size (f2 k) w6) := h61; have HL6 : Hid (LRow w6 w.heap.size gl cl k ss) := h62; clear HAW5 HL5 h61 h62)
          | (at_builtin; refine wpList_append_bats (by rfl) _ _ rfl w6.heap.size w6 _ 0 _ rfl (x_hown w6) (below_box _) (by simp) ⟨gl, 0, none⟩ cl ss (by rw [(HNC.out w6 HL6.out).2]; rfl) (HNC.out w6 HL6.out).1 (by have := HN30.out; have := (HNC.out w6 HL6.out).2; omega) ?_; intro v7 w7 hown7 hb7 hg7; obtain ⟨gx, cx, rfl, hx1, hx2, hx3, hx4⟩ := x_row HAW6.out HL6.out hown7 hg7 HN2.out; have HAW7 : Hid (AwK w.heap.size w w.heap.size (f2 k) w7) := hx3; have HL7 : Hid (LRow w7 w.heap.size gl cl k ss) := hx2; have HX7 : Hid (LRow w7 w6.heap.size gx cx k ss ∧ w.heap.size ≤ gx) := ⟨hx1, hx4⟩; clear HAW6 HL6 hown7 hb7 hg7 hx1 hx2 hx3 hx4)
          | (go_at_call 14; refine (HRD.out _).mono ?_; rintro e w8 ⟨rfl, rfl⟩)
          | (go_at_call 9; refine (HAWK.out _ (by assumption)).mono ?_; rintro e w9 ⟨rfl, hb9⟩)
          | (go_at_call 22; refine (HON2.out _).mono ?_; rintro e w8 ⟨g8, rfl, hg8, hb8⟩; have HG8 : Hid (w8.heap[g8]? = some (.cells (Rc.mk false ⟨#[]⟩ true ⟨#[122]⟩ 0 0).cells 48 (0, 0)) ∧ AwK w.heap.size w w.heap.size (f2 k) w8 ∧ LRow w8 w.heap.size gl cl k ss) := ⟨hg8, HAW7.out.below hb8, HL7.out.bel hb8⟩; clear hg8 hb8)
          | (go_at_call 11; refine (HC.out _ _ _ _ _ HG8.out.2.1 HG8.out.2.2 HG8.out.1).mono ?_; rintro e w9 ⟨rfl, h91, h92⟩; have HG9 : Hid (AwK w.heap.size w w.heap.size (f3 k) w9 ∧ LRow w9 w.heap.size gl cl k ss) := ⟨h91, h92⟩; clear HG8 h91 h92)
          | (go_at_call 11; refine (HC6.out _ HG9.out.1 HG9.out.2).mono ?_; rintro e w10 ⟨rfl, hb10⟩))
        go_ret
        exact ⟨rfl, hb9⟩
end Go.Proofs.Ytnnljdnaipjoiaa
