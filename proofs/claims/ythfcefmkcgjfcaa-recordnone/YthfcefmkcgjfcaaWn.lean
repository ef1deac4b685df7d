/- The walk of RecordNone. -/
import Derived.Test.YthfcefmkcgjfcaaLw
namespace Go.Proofs.Ythfcefmkcgjfcaa
set_option linter.unusedSimpArgs false
set_option linter.unusedVariables false
open Go.RowKit
/-- The four records. -/
def r4 (k v : ByteArray) (t : Int) : Nat → Rc
  | 0 => ⟨true, k, true, v, t, 0⟩
  | 1 => ⟨false, ⟨#[]⟩, true, v, t, 0⟩
  | 2 => ⟨true, k, false, ⟨#[]⟩, t, 0⟩
  | _ => ⟨false, ⟨#[]⟩, false, ⟨#[]⟩, t, 0⟩
def arr (k v : ByteArray) (t : Int) : Array Value := #[.bool true, .string k, .bool true, .string v, .int .i64 t, .int .i64 0, .bool false, .string ⟨#[]⟩, .bool true, .string v, .int .i64 t, .int .i64 0, .bool true, .string k, .bool false, .string ⟨#[]⟩, .int .i64 t, .int .i64 0, .bool false, .string ⟨#[]⟩, .bool false, .string ⟨#[]⟩, .int .i64 t, .int .i64 0]
theorem arr_cells {u y : World} {k v : ByteArray} {t : Int} (hb : Below (u.alloc (.cells (arr k v t) 44)).heap.size (u.alloc (.cells (arr k v t) 44)) y) (n : Nat) (hn : n < 4) :
    y.cell? ⟨u.heap.size, n * 6, none⟩ = some (.bool (r4 k v t n).hk) ∧ y.cell? ⟨u.heap.size, n * 6 + 1, none⟩ = some (.string (r4 k v t n).k) ∧ y.cell? ⟨u.heap.size, n * 6 + 2, none⟩ = some (.bool (r4 k v t n).hv) ∧ y.cell? ⟨u.heap.size, n * 6 + 3, none⟩ = some (.string (r4 k v t n).v) ∧ y.cell? ⟨u.heap.size, n * 6 + 4, none⟩ = some (.int .i64 (r4 k v t n).t) ∧ y.cell? ⟨u.heap.size, n * 6 + 5, none⟩ = some (.int .i64 (r4 k v t n).o) := by
  have h : y.heap[u.heap.size]? = some (.cells (arr k v t) 44 (0, 0)) := by
    rw [hb.block u.heap.size (by simp)]
    exact heap_alloc_new u _
  have hc : ∀ j, y.cell? ⟨u.heap.size, j, none⟩ = (arr k v t)[j]? := fun j => cell_of_row _ _ j _ 44 (0, 0) h
  match n, hn with
  | 0, _ => exact ⟨by rw [hc]; rfl, by rw [hc]; rfl, by rw [hc]; rfl, by rw [hc]; rfl, by rw [hc]; rfl, by rw [hc]; rfl⟩
  | 1, _ => exact ⟨by rw [hc]; rfl, by rw [hc]; rfl, by rw [hc]; rfl, by rw [hc]; rfl, by rw [hc]; rfl, by rw [hc]; rfl⟩
  | 2, _ => exact ⟨by rw [hc]; rfl, by rw [hc]; rfl, by rw [hc]; rfl, by rw [hc]; rfl, by rw [hc]; rfl, by rw [hc]; rfl⟩
  | 3, _ => exact ⟨by rw [hc]; rfl, by rw [hc]; rfl, by rw [hc]; rfl, by rw [hc]; rfl, by rw [hc]; rfl, by rw [hc]; rfl⟩
theorem r4_ok (k v : ByteArray) (t : Int) (hk : k.size ≤ 2000) (hv : v.size ≤ 2000) (t0 : 0 ≤ t) (t1 : t ≤ 1125899906842624) (n : Nat) : chk (r4 k v t n) = 0 ∧ (n < 4 → headN (r4 k v t n) = 3 - n) := by
  have ht : timeB t = true := (time_iff t).2 ⟨t0, t1⟩
  have e0 : (⟨#[]⟩ : ByteArray).toList = [] := by decide +kernel
  have s0 : (⟨#[]⟩ : ByteArray).size = 0 := rfl
  match n with
  | 0 => exact ⟨by unfold chk oddB r4; simp only [ht, e0, s0]; simp; omega, fun _ => rfl⟩
  | 1 => exact ⟨by unfold chk oddB r4; simp only [ht, e0, s0]; simp; omega, fun _ => rfl⟩
  | 2 => exact ⟨by unfold chk oddB r4; simp only [ht, e0, s0]; simp; omega, fun _ => rfl⟩
  | n + 3 => exact ⟨by unfold chk oddB r4; simp only [ht, e0, s0]; simp, fun h => by obtain rfl : n = 0 := by omega
                                                                                     rfl⟩
set_option maxRecDepth 100000 in
set_option maxHeartbeats 1000000 in
theorem none_in (k v : ByteArray) (t : Int) (u : World) (hk : k.size ≤ 2000) (hv : v.size ≤ 2000) (t0 : 0 ≤ t) (t1 : t ≤ 1125899906842624) :
    Calls Try.prog 8 #[.string k, .string v, .int .i64 t] u fun e w' => e = .returned (.bool true) ∧ Below u.heap.size u w' := by
  have ht : timeB t = true := (time_iff t).2 ⟨t0, t1⟩
  obtain ⟨E, hE⟩ : ∃ E : Nat → List Nat, E = fun n => encL (r4 k v t n) t := ⟨_, rfl⟩
  have HEn : Hid (∀ n w', Calls Try.prog 11 #[.agg (r4 k v t n).cells, .int .i64 t] w' fun e w2 => ∃ x, e = .returned (.tuple #[x, .int .i64 0]) ∧ w2.ownsRow w'.heap.size 5 1 x (E n).length (cv (E n)) ∧ Below w'.heap.size w' w2) := by
    intro n w'
    have h := encode_any (r4 k v t n) t w'
    have h0 : encE (r4 k v t n) t = 0 := by unfold encE; rw [(r4_ok k v t hk hv t0 t1 n).1, if_pos rfl, if_pos ht]
    rw [h0, (enc_ok h0).1] at h
    rw [hE]
    exact h
  have HDn : Hid (∀ n a cap w', Row w' a (E n) → (E n).length ≤ cap → cap ≤ maxLen → Calls Try.prog 16 #[.slice a (E n).length cap, .int .i64 t] w' fun e w2 => ∃ m : Nat, e = .returned (.tuple #[.agg (r4 k v t n).cells, .int .i64 (m : Int), .int .i64 0]) ∧ Below w'.heap.size w' w2) := by
    intro n a cap w' h1 h2 h3
    have h := decode_any a cap (E n) t w' h1 h2 h3
    obtain ⟨_, b1, b2, b3⟩ := dec_back (r4 k v t n) t [] (r4_ok k v t hk hv t0 t1 n).1 ht
    rw [List.append_nil] at b1 b2 b3
    refine h.mono ?_
    rintro e w2 ⟨rfl, hb⟩
    rw [hE] at *
    exact ⟨_, by rw [b1, b3], hb⟩
  have HLn : Hid (∀ n, (∀ i, (E n).getD i 0 < 256) ∧ 0 < (E n).length ∧ (E n).length ≤ 5000) := by
    intro n
    have hc := (r4_ok k v t hk hv t0 t1 n).1
    obtain ⟨_, _, _, _, k1, v1, _, _⟩ := chk_ok hc
    rw [hE]
    exact ⟨encL_lt _ t hc ht, encL_pos _ t, encL_len _ t k1 v1⟩
  have HBn : Hid (∀ n j, j < n → n < 4 → ∀ a ca b cb w', Row w' a (E n) → Row w' b (E j) → Calls Try.prog 13 #[.slice a (E n).length ca, .slice b (E j).length cb] w' fun e w2 => e = .returned (.bool false) ∧ ∃ m, w2 = w'.drewN m) := by
    intro n j hj hn a ca b cb w' h1 h2
    have hne : ¬ E n = E j := by
      intro c
      have hd : (E n).getD 0 0 = (E j).getD 0 0 := by rw [c]
      rw [hE] at hd
      have e1 : (encL (r4 k v t n) t).getD 0 0 = headN (r4 k v t n) := rfl
      have e2 : (encL (r4 k v t j) t).getD 0 0 = headN (r4 k v t j) := rfl
      simp only [e1, e2] at hd
      rw [(r4_ok k v t hk hv t0 t1 n).2 hn, (r4_ok k v t hk hv t0 t1 j).2 (by omega)] at hd
      omega
    have h := bytes_any a ca (E n) b cb (E j) w' h1 h2 (by have := (HLn.out n).2.2; unfold maxLen; omega) (by have := (HLn.out j).2.2; unfold maxLen; omega)
    rw [decide_eq_false hne] at h
    exact h
  clear hE ht
  have hkI : (k.size : Int) ≤ 2000 := by omega
  have hvI : (v.size : Int) ≤ 2000 := by omega
  have HA : Hid _ := awake_any
  obtain ⟨HP, hHP⟩ : ∃ HP : World → Prop, HP = fun y => Below (u.alloc (.cells (arr k v t) 44)).heap.size (u.alloc (.cells (arr k v t) 44)) y := ⟨_, rfl⟩
  have H0 : Hid (HP (u.alloc (.cells (arr k v t) 44))) := by rw [hHP]; exact Below.refl _ _
  have HC : Hid (∀ y, HP y → ∀ n, n < 4 → _) := fun y h n hn => arr_cells (by rw [hHP] at h; exact h) n hn
  have HPB : Hid (∀ y y', HP y → Below y.heap.size y y' → HP y') := fun y y' h hb => by rw [hHP] at h ⊢; exact h.trans (hb.mono h.size)
  have HPU : Hid (∀ y, HP y → Below u.heap.size u y ∧ u.heap.size < y.heap.size) := fun y h => by
    rw [hHP] at h
    have := h.size
    rw [World.size_alloc] at this
    exact ⟨(below_box _).trans (h.mono (by simp)), by omega⟩
  clear hHP
  go_enter Try.func8, Try.ntmps8
  go_wp2_with fail
  go_loopw [8] (fun i wr => ∃ n : Nat, n ≤ 4 ∧ i = .int .i64 n ∧ HP wr) (fun i _ => 4 - (intOf i).toNat)
  case atStart => exact ⟨0, by omega, rfl, H0.out⟩
  case round =>
    obtain ⟨n, hn, rfl, hP⟩ := hrel
    by_cases h4 : n < 4
    · have h4I : (n : Int) < 4 := by omega
      obtain ⟨c0, c1, c2, c3, c4, c5⟩ := HC.out wr hP n h4
      have HE1 : Hid _ := HEn.out n
      have HD1 : Hid _ := HDn.out n
      have hL0 := (HLn.out n).2.1
      have HLT : Hid _ := (HLn.out n).1
      obtain ⟨⟨x0, x1, x2, x3, x4, x5⟩, hrn⟩ : ∃ rn, r4 k v t n = rn := ⟨_, rfl⟩
      have HRN : Hid _ := hrn
      rw [hrn] at c0 c1 c2 c3 c4 c5 HE1 HD1
      simp only [Rc.cells] at HE1 HD1
      simp only at c0 c1 c2 c3 c4 c5
      clear hrn
      have hlt := (HPU.out wr hP).2
      go_wp2_with (first
        | (go_at_call 11; refine (HE1.out _).mono ?_; clear c0 c1 c2 c3 c4 c5; rintro e w1 ⟨x, rfl, hown, hb1⟩; obtain ⟨g1, q1, rfl, ho1⟩ := owns_some hown hL0; have R1 := ho1.row HLT.out; have hle1 := ho1.le; clear hown ho1; have hP1 := HPB.out _ _ hP hb1; clear hb1)
        | (go_at_call 16; refine (HD1.out _ _ _ R1 hle1.1 hle1.2).mono ?_; rintro e w2 ⟨m, rfl, hb2⟩; have hP2 := HPB.out _ _ hP1 hb2; have R2 := R1.below hb2; clear hb2 R1; obtain ⟨d0, d1, d2, d3, d4, d5⟩ := HC.out w2 hP2 n h4; rw [HRN.out] at d0 d1 d2 d3 d4 d5; simp only at d0 d1 d2 d3 d4 d5; have hlt2 := (HPU.out w2 hP2).2))
      go_quiet (fail)
      clear d0 d1 d2 d3 d4 d5
      have hbT : Below w2.heap.size w2 ((w2.alloc (.cells #[.bool x0, .string x1, .bool x2, .string x3, .int .i64 x4, .int .i64 x5] 23)).drewN nq) := below_drewN (below_box _) nq
      have hP3 := HPB.out _ _ hP2 hbT
      have R3 := R2.below hbT
      clear hbT R2
      generalize (w2.alloc (.cells #[.bool x0, .string x1, .bool x2, .string x3, .int .i64 x4, .int .i64 x5] 23)).drewN nq = w3 at hP3 R3 ⊢
      go_wp2_with fail
      obtain ⟨W, rfl⟩ : ∃ W, W = wr := ⟨_, rfl⟩
      go_loopw [14] (fun j wr => ∃ m : Nat, m ≤ n ∧ j = .int .i64 m ∧ HP wr ∧ Row wr (some ⟨g1, 0, none⟩) (E n)) (fun j _ => n - (intOf j).toNat)
      case atStart => exact ⟨0, by omega, rfl, hP3, R3⟩
      case round =>
        clear hP3 R3 hP2 hP1 hP
        obtain ⟨j, hj, rfl, hPj, Rj⟩ := hrel
        by_cases hjn : j < n
        · have hjnI : (j : Int) < (n : Int) := by omega
          have hj4 : (j : Int) < 4 := by omega
          obtain ⟨c0, c1, c2, c3, c4, c5⟩ := HC.out wr hPj j (by omega)
          have HE2 : Hid _ := HEn.out j
          have HB2 : Hid _ := HBn.out n j hjn h4
          have hL2 := (HLn.out j).2.1
          have HLT2 : Hid _ := (HLn.out j).1
          obtain ⟨⟨y0, y1, y2, y3, y4, y5⟩, hrj⟩ : ∃ rn, r4 k v t j = rn := ⟨_, rfl⟩
          rw [hrj] at c0 c1 c2 c3 c4 c5 HE2
          simp only [Rc.cells] at HE2
          simp only at c0 c1 c2 c3 c4 c5
          clear hrj
          have hltj := (HPU.out wr hPj).2
          go_wp2_with (first
            | (go_at_call 11; refine (HE2.out _).mono ?_; clear c0 c1 c2 c3 c4 c5; rintro e w5 ⟨x, rfl, hown, hb5⟩; obtain ⟨g5, q5, rfl, ho5⟩ := owns_some hown hL2; have R5 := ho5.row HLT2.out; clear hown ho5; have hP5 := HPB.out _ _ hPj hb5; have R6 := Rj.below hb5; clear hb5)
            | (go_at_call 13; refine (HB2.out _ _ _ _ _ R6 R5).mono ?_; rintro e w6 ⟨rfl, p, rfl⟩))
          exact ⟨⟨j + 1, by omega, by go_num, HPB.out _ _ hP5 (below_drewN (Below.refl _ _) p), R6.drewN p⟩, by simp [intOf]; omega⟩
        · obtain rfl : j = n := by omega
          go_wp2_with fail
          exact ⟨⟨j + 1, by omega, by go_num, hPj⟩, by simp [intOf]; omega⟩
    · obtain rfl : n = 4 := by omega
      go_wp2_with (go_at_call 10; refine (HA.out _).mono ?_; rintro e w5 ⟨rfl, hb5⟩)
      go_ret
      have := (HPU.out wr hP).1
      exact ⟨rfl, this.trans (hb5.mono this.size)⟩
set_option maxRecDepth 100000 in
theorem recordNone_walk (a0 a1 : ByteArray) (a2 : Int) (w : World) (w0 : a0.size ≤ maxLen) (w1 : a1.size ≤ maxLen) (w2 : (Lit.int .i64 a2).wf = true) :
    Calls Try.prog 8 #[.string a0, .string a1, .int .i64 a2] w fun e w' => e = .returned (.bool true) ∧ Below w.heap.size w w' := by
  have HA : Hid _ := awake_any
  clear w0 w1 w2
  by_cases h1 : 2000 < (a0.size : Int)
  · go_enter Try.func8, Try.ntmps8
    go_wp2_with (go_at_call 10; refine (HA.out _).mono ?_; rintro e w5 ⟨rfl, hb5⟩)
    go_ret
    exact ⟨rfl, hb5⟩
  by_cases h2 : 2000 < (a1.size : Int)
  · go_enter Try.func8, Try.ntmps8
    go_wp2_with (go_at_call 10; refine (HA.out _).mono ?_; rintro e w5 ⟨rfl, hb5⟩)
    go_ret
    exact ⟨rfl, hb5⟩
  by_cases h3 : a2 < 0
  · go_enter Try.func8, Try.ntmps8
    go_wp2_with (go_at_call 10; refine (HA.out _).mono ?_; rintro e w5 ⟨rfl, hb5⟩)
    go_ret
    exact ⟨rfl, hb5⟩
  by_cases h4 : 1125899906842624 < a2
  · go_enter Try.func8, Try.ntmps8
    go_wp2_with (go_at_call 10; refine (HA.out _).mono ?_; rintro e w5 ⟨rfl, hb5⟩)
    go_ret
    exact ⟨rfl, hb5⟩
  · exact none_in a0 a1 a2 w (by omega) (by omega) (by omega) (by omega)
end Go.Proofs.Ythfcefmkcgjfcaa
