/- Rows, laid. -/
import Derived.Test.YtaooidckmepdeaaDoorKd
namespace Go.Proofs.YtaooidckmepdeaaDoor
set_option linter.unusedSimpArgs false
set_option linter.unusedVariables false
open Go.RowKit
set_option maxHeartbeats 800000 in
set_option maxRecDepth 100000 in
theorem wrow_txt (w0 w : World) (st : Ls) (N : Nat) (a : Option Addr) (cap : Nat) (l : List ByteArray) (hN : N ≤ 100000000000) (hl : l.length ≤ 100000) (hs : ∀ i, i < l.length → (l.getD i ⟨#[]⟩).size ≤ 9223372036854775807) (hr : SRow w0 a l) (h : WrS w0 w st N) :
    Calls Tryd.prog 60 #[.pointer (some ⟨w0.heap.size, 0, none⟩), .slice a l.length cap, .func (.func 57) #[.pointer (some ⟨w0.heap.size, 0, none⟩)] #[]] w (WP w0 w (oa st (eRow eText l)) (N + 8 + l.length * 65600)) := by
  have HN : Hid _ := wnat_any w0 w st N 2 2 (l.length : Int) rfl (by omega) ⟨by omega, by omega⟩ (by omega) h
  obtain ⟨S, HS⟩ : ∃ S : Nat → Ls, Hid (S = fun k => stL eText st l k) := ⟨_, rfl⟩
  have HS0 : Hid (oa st (eNat 2 (l.length : Int)) = S 0) := by show _ = _; rw [HS.out]; simp only []; rw [stL_zero]
  have HSA : Hid (S l.length = oa st (eRow eText l)) := by show _ = _; rw [HS.out]; simp only []; exact stL_all _ _ _
  have HSN : Hid (∀ k, S k = none → oa st (eRow eText l) = none) := fun k e => stL_none _ _ _ k (by rw [HS.out] at e; exact e)
  have HSS : Hid (∀ k, k < l.length → S (k + 1) = oa (S k) (eText (l.getD k ⟨#[]⟩))) := fun k hk => by rw [HS.out]; simp only []; exact stL_step _ _ _ k hk _
  have HO : Hid (∀ k x M, k < l.length → M ≤ 700000000000 → WrS w0 x (S k) M → Calls Tryd.prog 57 #[.pointer (some ⟨w0.heap.size, 0, none⟩), .string (l.getD k ⟨#[]⟩)] x (WP w0 x (S (k + 1)) (M + 65600))) := fun k x M hk hM hx => by
    rw [HSS.out k hk]
    exact wtext_any w0 x (S k) M (l.getD k ⟨#[]⟩) (hs k hk) (by omega) hx
  rw [HS0.out] at HN
  generalize oa st (eRow eText l) = st2 at *
  clear HS HS0 h HSS
  have HRR : Hid _ := hr
  have HL : Hid (l.length ≤ 100000) := hl
  have hlI : (l.length : Int) ≤ 100000 := by omega
  clear hr
  go_enter Tryd.func60, Tryd.ntmps60
  go_wp2_with (go_at_call 23; refine Calls.mono HN.out ?_; rintro e w1 ⟨rfl, hw1, hk1⟩)
  go_loopw [14] (fun i wr => ∃ k : Nat, k ≤ l.length ∧ i = .int .i64 k ∧ WrS w0 wr (S k) (N + 8 + k * 65600) ∧ KeepT w0.heap.size w wr) (fun i _ => l.length - (intOf i).toNat)
  case atStart => exact ⟨0, by omega, rfl, by simpa using hw1, hk1⟩
  case round =>
    clear hw1 hk1
    obtain ⟨k, hk, rfl, hw1, hk1⟩ := hrel
    by_cases hlt : k < l.length
    · have hltI : (k : Int) < (l.length : Int) := by omega
      obtain ⟨b, off, rfl, z0⟩ := (SRow.below HRR.out hw1.bel) k hlt
      have HM : Hid (N + 8 + k * 65600 ≤ 700000000000) := by show _ ≤ _; have := HL.out; omega
      have HC0 : Hid (∀ x, WrS w0 x (S k) (N + 8 + k * 65600) → Calls Tryd.prog 57 #[.pointer (some ⟨w0.heap.size, 0, none⟩), .string (l.getD k ⟨#[]⟩)] x (WP w0 x (S (k + 1)) (N + 8 + k * 65600 + 65600))) := fun x hx => HO.out k x (N + 8 + k * 65600) hlt HM.out hx
      generalize l.getD k ⟨#[]⟩ = t at *
      have HC : Hid (∀ x, WrS w0 x (S k) (N + 8 + k * 65600) → Calls Tryd.prog 57 #[.pointer (some ⟨w0.heap.size, 0, none⟩), .string t] x (WP w0 x (S (k + 1)) (N + 8 + k * 65600 + 65600))) := HC0.out
      obtain ⟨a0, m0, c0, q0, q1, q2, q3, q4⟩ := hw1.open
      have HW1 : Hid (WrS w0 wr (S k) (N + 8 + k * 65600)) := hw1
      have HZ : Hid (S k = none → st2 = none) := HSN.out k
      clear hw1 HO HSN HC0
      generalize S k = sk at *
      cases sk with
      | none =>
        simp only [Option.isNone_none] at q1
        go_wp2_with fail
        refine bodyPost_ret (results_none rfl _ _ _) rfl ?_
        rw [HZ.out (by first | rfl | trivial)]
        have q := HW1.out
        exact ⟨rfl, (q).mono (by have := Nat.mul_le_mul_right 65600 hk; omega), hk1⟩
      | some L =>
        simp only [Option.isNone_some] at q1
        go_wp2_with (go_at_call 57; refine (HC.out _ (HW1.out)).mono ?_; rintro e w2 ⟨rfl, hw2, hk2⟩)
        exact ⟨⟨k + 1, by omega, by go_num, by rw [Nat.succ_mul, ← Nat.add_assoc]; exact hw2, (hk1).trans hk2⟩, by simp [intOf]; omega⟩
    · obtain rfl : k = l.length := by omega
      go_wp2_with fail
      go_end0
      rw [← HSA.out]
      exact ⟨rfl, hw1, hk1⟩
set_option maxHeartbeats 800000 in
set_option maxRecDepth 100000 in
theorem wrow_int (w0 w : World) (st : Ls) (N : Nat) (a : Option Addr) (cap : Nat) (l : List Int) (hN : N ≤ 100000000000) (hl : l.length ≤ 100000) (hr : IRow w0 a l) (h : WrS w0 w st N) :
    Calls Tryd.prog 61 #[.pointer (some ⟨w0.heap.size, 0, none⟩), .slice a l.length cap, .func (.func 56) #[.pointer (some ⟨w0.heap.size, 0, none⟩)] #[]] w (WP w0 w (oa st (eRow (fun x => some (eInt x)) l)) (N + 8 + l.length * 8)) := by
  have HN : Hid _ := wnat_any w0 w st N 2 2 (l.length : Int) rfl (by omega) ⟨by omega, by omega⟩ (by omega) h
  obtain ⟨S, HS⟩ : ∃ S : Nat → Ls, Hid (S = fun k => stL (fun x => some (eInt x)) st l k) := ⟨_, rfl⟩
  have HS0 : Hid (oa st (eNat 2 (l.length : Int)) = S 0) := by show _ = _; rw [HS.out]; simp only []; rw [stL_zero]
  have HSA : Hid (S l.length = oa st (eRow (fun x => some (eInt x)) l)) := by show _ = _; rw [HS.out]; simp only []; exact stL_all _ _ _
  have HSN : Hid (∀ k, S k = none → oa st (eRow (fun x => some (eInt x)) l) = none) := fun k e => stL_none _ _ _ k (by rw [HS.out] at e; exact e)
  have HSS : Hid (∀ k, k < l.length → S (k + 1) = oa (S k) ((fun x => some (eInt x)) (l.getD k 0))) := fun k hk => by rw [HS.out]; simp only []; exact stL_step _ _ _ k hk _
  have HO : Hid (∀ k x M, k < l.length → M ≤ 700000000000 → WrS w0 x (S k) M → Calls Tryd.prog 56 #[.pointer (some ⟨w0.heap.size, 0, none⟩), .int .i64 (l.getD k 0)] x (WP w0 x (S (k + 1)) (M + 8))) := fun k x M hk hM hx => by
    rw [HSS.out k hk]
    exact wnum_any w0 x (S k) M (l.getD k 0) (by omega) hx
  rw [HS0.out] at HN
  generalize oa st (eRow (fun x => some (eInt x)) l) = st2 at *
  clear HS HS0 h HSS
  have HRR : Hid _ := hr
  have HL : Hid (l.length ≤ 100000) := hl
  have hlI : (l.length : Int) ≤ 100000 := by omega
  clear hr
  go_enter Tryd.func61, Tryd.ntmps61
  go_wp2_with (go_at_call 23; refine Calls.mono HN.out ?_; rintro e w1 ⟨rfl, hw1, hk1⟩)
  go_loopw [14] (fun i wr => ∃ k : Nat, k ≤ l.length ∧ i = .int .i64 k ∧ WrS w0 wr (S k) (N + 8 + k * 8) ∧ KeepT w0.heap.size w wr) (fun i _ => l.length - (intOf i).toNat)
  case atStart => exact ⟨0, by omega, rfl, by simpa using hw1, hk1⟩
  case round =>
    clear hw1 hk1
    obtain ⟨k, hk, rfl, hw1, hk1⟩ := hrel
    by_cases hlt : k < l.length
    · have hltI : (k : Int) < (l.length : Int) := by omega
      obtain ⟨b, off, rfl, z0⟩ := (IRow.below HRR.out hw1.bel) k hlt
      have HM : Hid (N + 8 + k * 8 ≤ 700000000000) := by show _ ≤ _; have := HL.out; omega
      have HC0 : Hid (∀ x, WrS w0 x (S k) (N + 8 + k * 8) → Calls Tryd.prog 56 #[.pointer (some ⟨w0.heap.size, 0, none⟩), .int .i64 (l.getD k 0)] x (WP w0 x (S (k + 1)) (N + 8 + k * 8 + 8))) := fun x hx => HO.out k x (N + 8 + k * 8) hlt HM.out hx
      generalize l.getD k 0 = t at *
      have HC : Hid (∀ x, WrS w0 x (S k) (N + 8 + k * 8) → Calls Tryd.prog 56 #[.pointer (some ⟨w0.heap.size, 0, none⟩), .int .i64 t] x (WP w0 x (S (k + 1)) (N + 8 + k * 8 + 8))) := HC0.out
      obtain ⟨a0, m0, c0, q0, q1, q2, q3, q4⟩ := hw1.open
      have HW1 : Hid (WrS w0 wr (S k) (N + 8 + k * 8)) := hw1
      have HZ : Hid (S k = none → st2 = none) := HSN.out k
      clear hw1 HO HSN HC0
      generalize S k = sk at *
      cases sk with
      | none =>
        simp only [Option.isNone_none] at q1
        go_wp2_with fail
        refine bodyPost_ret (results_none rfl _ _ _) rfl ?_
        rw [HZ.out (by first | rfl | trivial)]
        have q := HW1.out
        exact ⟨rfl, (q).mono (by have := Nat.mul_le_mul_right 8 hk; omega), hk1⟩
      | some L =>
        simp only [Option.isNone_some] at q1
        go_wp2_with (go_at_call 56; refine (HC.out _ (HW1.out)).mono ?_; rintro e w2 ⟨rfl, hw2, hk2⟩)
        exact ⟨⟨k + 1, by omega, by go_num, by rw [Nat.succ_mul, ← Nat.add_assoc]; exact hw2, (hk1).trans hk2⟩, by simp [intOf]; omega⟩
    · obtain rfl : k = l.length := by omega
      go_wp2_with fail
      go_end0
      rw [← HSA.out]
      exact ⟨rfl, hw1, hk1⟩
set_option maxHeartbeats 800000 in
set_option maxRecDepth 100000 in
theorem wrow_rec (w0 w : World) (st : Ls) (N : Nat) (a : Option Addr) (cap : Nat) (l : List Rc) (hN : N ≤ 100000000000) (hl : l.length ≤ 100000) (hs : ∀ i, i < l.length → In64 (l.getD i rz).t ∧ (l.getD i rz).k.size ≤ 9223372036854775807 ∧ (l.getD i rz).v.size ≤ 9223372036854775807) (hr : RRow w0 a l) (h : WrS w0 w st N) :
    Calls Tryd.prog 58 #[.pointer (some ⟨w0.heap.size, 0, none⟩), .slice a l.length cap, .func (.func 59) #[.pointer (some ⟨w0.heap.size, 0, none⟩)] #[]] w (WP w0 w (oa st (eRow eRec l)) (N + 8 + l.length * 140000)) := by
  have HN : Hid _ := wnat_any w0 w st N 2 2 (l.length : Int) rfl (by omega) ⟨by omega, by omega⟩ (by omega) h
  obtain ⟨S, HS⟩ : ∃ S : Nat → Ls, Hid (S = fun k => stL eRec st l k) := ⟨_, rfl⟩
  have HS0 : Hid (oa st (eNat 2 (l.length : Int)) = S 0) := by show _ = _; rw [HS.out]; simp only []; rw [stL_zero]
  have HSA : Hid (S l.length = oa st (eRow eRec l)) := by show _ = _; rw [HS.out]; simp only []; exact stL_all _ _ _
  have HSN : Hid (∀ k, S k = none → oa st (eRow eRec l) = none) := fun k e => stL_none _ _ _ k (by rw [HS.out] at e; exact e)
  have HSS : Hid (∀ k, k < l.length → S (k + 1) = oa (S k) (eRec (l.getD k rz))) := fun k hk => by rw [HS.out]; simp only []; exact stL_step _ _ _ k hk _
  have HO : Hid (∀ k x M, k < l.length → M ≤ 500000000000 → WrS w0 x (S k) M → Calls Tryd.prog 59 #[.pointer (some ⟨w0.heap.size, 0, none⟩), .agg (l.getD k rz).cells] x (WP w0 x (S (k + 1)) (M + 140000))) := fun k x M hk hM hx => by
    rw [HSS.out k hk]
    exact wrec_any w0 x (S k) M (l.getD k rz) (by omega) (hs k hk).1 (hs k hk).2.1 (hs k hk).2.2 hx
  rw [HS0.out] at HN
  generalize oa st (eRow eRec l) = st2 at *
  clear HS HS0 h HSS
  have HRR : Hid _ := hr
  have HL : Hid (l.length ≤ 100000) := hl
  have hlI : (l.length : Int) ≤ 100000 := by omega
  clear hr
  go_enter Tryd.func58, Tryd.ntmps58
  go_wp2_with (go_at_call 23; refine Calls.mono HN.out ?_; rintro e w1 ⟨rfl, hw1, hk1⟩)
  go_loopw [14] (fun i wr => ∃ k : Nat, k ≤ l.length ∧ i = .int .i64 k ∧ WrS w0 wr (S k) (N + 8 + k * 140000) ∧ KeepT w0.heap.size w wr) (fun i _ => l.length - (intOf i).toNat)
  case atStart => exact ⟨0, by omega, rfl, by simpa using hw1, hk1⟩
  case round =>
    clear hw1 hk1
    obtain ⟨k, hk, rfl, hw1, hk1⟩ := hrel
    by_cases hlt : k < l.length
    · have hltI : (k : Int) < (l.length : Int) := by omega
      obtain ⟨b, off, rfl, z0, z1, z2, z3, z4, z5⟩ := (RRow.below HRR.out hw1.bel) k hlt
      have HM : Hid (N + 8 + k * 140000 ≤ 500000000000) := by show _ ≤ _; have := HL.out; omega
      have HC0 : Hid (∀ x, WrS w0 x (S k) (N + 8 + k * 140000) → Calls Tryd.prog 59 #[.pointer (some ⟨w0.heap.size, 0, none⟩), .agg (l.getD k rz).cells] x (WP w0 x (S (k + 1)) (N + 8 + k * 140000 + 140000))) := fun x hx => HO.out k x (N + 8 + k * 140000) hlt HM.out hx
      generalize l.getD k rz = r at *
      have HC : Hid (∀ x, WrS w0 x (S k) (N + 8 + k * 140000) → Calls Tryd.prog 59 #[.pointer (some ⟨w0.heap.size, 0, none⟩), .agg #[.bool r.hk, .string r.k, .bool r.hv, .string r.v, .int .i64 r.t, .int .i64 r.o]] x (WP w0 x (S (k + 1)) (N + 8 + k * 140000 + 140000))) := HC0.out
      obtain ⟨a0, m0, c0, q0, q1, q2, q3, q4⟩ := hw1.open
      have HW1 : Hid (WrS w0 wr (S k) (N + 8 + k * 140000)) := hw1
      have HZ : Hid (S k = none → st2 = none) := HSN.out k
      clear hw1 HO HSN HC0
      generalize S k = sk at *
      cases sk with
      | none =>
        simp only [Option.isNone_none] at q1
        go_wp2_with fail
        refine bodyPost_ret (results_none rfl _ _ _) rfl ?_
        rw [HZ.out (by first | rfl | trivial)]
        have q := HW1.out
        exact ⟨rfl, (q.below (below_box _)).mono (by have := Nat.mul_le_mul_right 140000 hk; omega), hk1.trans (KeepT.of_below (below_box _))⟩
      | some L =>
        simp only [Option.isNone_some] at q1
        go_wp2_with (go_at_call 59; refine (HC.out _ (HW1.out.below (below_box _))).mono ?_; rintro e w2 ⟨rfl, hw2, hk2⟩)
        exact ⟨⟨k + 1, by omega, by go_num, by rw [Nat.succ_mul, ← Nat.add_assoc]; exact hw2, (hk1.trans (KeepT.of_below (below_box _))).trans hk2⟩, by simp [intOf]; omega⟩
    · obtain rfl : k = l.length := by omega
      go_wp2_with fail
      go_end0
      rw [← HSA.out]
      exact ⟨rfl, hw1, hk1⟩
set_option maxHeartbeats 800000 in
set_option maxRecDepth 100000 in
theorem wrow_bat (w0 w : World) (st : Ls) (N : Nat) (a : Option Addr) (cap : Nat) (l : List Bs) (hN : N ≤ 100000000000) (hl : l.length ≤ 100000) (ht : Tab w0) (hr : BRow w0 a l) (h : WrS w0 w st N) :
    Calls Tryd.prog 62 #[.pointer (some ⟨w0.heap.size, 0, none⟩), .slice a l.length cap, .func (.func 63) #[.pointer (some ⟨w0.heap.size, 0, none⟩)] #[]] w (WP w0 w (oa st (eRow eBat (l.map (·.b)))) (N + 8 + l.length * 6000)) := by
  have HN : Hid _ := wnat_any w0 w st N 2 2 (l.length : Int) rfl (by omega) ⟨by omega, by omega⟩ (by omega) h
  obtain ⟨S, HS⟩ : ∃ S : Nat → Ls, Hid (S = fun k => stL eBat st (l.map (·.b)) k) := ⟨_, rfl⟩
  have HS0 : Hid (oa st (eNat 2 (l.length : Int)) = S 0) := by show _ = _; rw [HS.out]; simp only []; rw [stL_zero]; rw [List.length_map]
  have HSA : Hid (S l.length = oa st (eRow eBat (l.map (·.b)))) := by show _ = _; rw [HS.out]; simp only []; have q := stL_all eBat st (l.map (·.b)); rw [List.length_map] at q; exact q
  have HSN : Hid (∀ k, S k = none → oa st (eRow eBat (l.map (·.b))) = none) := fun k e => stL_none _ _ _ k (by rw [HS.out] at e; exact e)
  have HSS : Hid (∀ k, k < l.length → S (k + 1) = oa (S k) (eBat (l.getD k bsz).b)) := fun k hk => by rw [HS.out]; simp only []; have q := stL_step eBat st (l.map (·.b)) k (by simpa using hk) bsz.b; rw [q]; congr 2; simp [List.getD, hk]
  have HO : Hid (∀ k x M, k < l.length → M ≤ 700000000000 → WrS w0 x (S k) M → Calls Tryd.prog 63 #[.pointer (some ⟨w0.heap.size, 0, none⟩), bav (l.getD k bsz).b (l.getD k bsz).a (l.getD k bsz).cap] x (WP w0 x (S (k + 1)) (M + 6000))) := fun k x M hk hM hx => by
    rw [HSS.out k hk]
    exact wbat_any w0 x (S k) M _ _ _ (by omega) ((hr.2 k hk).below hx.bel) (ht.below hx.bel) hx
  rw [HS0.out] at HN
  generalize oa st (eRow eBat (l.map (·.b))) = st2 at *
  clear HS HS0 h HSS
  have HRR : Hid _ := hr
  have HL : Hid (l.length ≤ 100000) := hl
  have hlI : (l.length : Int) ≤ 100000 := by omega
  clear hr
  go_enter Tryd.func62, Tryd.ntmps62
  go_wp2_with (go_at_call 23; refine Calls.mono HN.out ?_; rintro e w1 ⟨rfl, hw1, hk1⟩)
  go_loopw [14] (fun i wr => ∃ k : Nat, k ≤ l.length ∧ i = .int .i64 k ∧ WrS w0 wr (S k) (N + 8 + k * 6000) ∧ KeepT w0.heap.size w wr) (fun i _ => l.length - (intOf i).toNat)
  case atStart => exact ⟨0, by omega, rfl, by simpa using hw1, hk1⟩
  case round =>
    clear hw1 hk1
    obtain ⟨k, hk, rfl, hw1, hk1⟩ := hrel
    by_cases hlt : k < l.length
    · have hltI : (k : Int) < (l.length : Int) := by omega
      obtain ⟨b, off, rfl, z0, z1, z2, z3, z4⟩ := (BCells.below HRR.out.1 hw1.bel) k hlt
      have HM : Hid (N + 8 + k * 6000 ≤ 700000000000) := by show _ ≤ _; have := HL.out; omega
      have HC0 : Hid (∀ x, WrS w0 x (S k) (N + 8 + k * 6000) → Calls Tryd.prog 63 #[.pointer (some ⟨w0.heap.size, 0, none⟩), bav (l.getD k bsz).b (l.getD k bsz).a (l.getD k bsz).cap] x (WP w0 x (S (k + 1)) (N + 8 + k * 6000 + 6000))) := fun x hx => HO.out k x (N + 8 + k * 6000) hlt HM.out hx
      generalize l.getD k bsz = r at *
      have HC : Hid (∀ x, WrS w0 x (S k) (N + 8 + k * 6000) → Calls Tryd.prog 63 #[.pointer (some ⟨w0.heap.size, 0, none⟩), .agg #[.int .i64 r.b.base, .int .i64 r.b.span, .int .i64 r.b.prod, .int .i64 r.b.seq, .slice r.a r.b.rs.length r.cap]] x (WP w0 x (S (k + 1)) (N + 8 + k * 6000 + 6000))) := HC0.out
      obtain ⟨a0, m0, c0, q0, q1, q2, q3, q4⟩ := hw1.open
      have HW1 : Hid (WrS w0 wr (S k) (N + 8 + k * 6000)) := hw1
      have HZ : Hid (S k = none → st2 = none) := HSN.out k
      clear hw1 HO HSN HC0
      generalize S k = sk at *
      cases sk with
      | none =>
        simp only [Option.isNone_none] at q1
        go_wp2_with fail
        refine bodyPost_ret (results_none rfl _ _ _) rfl ?_
        rw [HZ.out (by first | rfl | trivial)]
        have q := HW1.out
        exact ⟨rfl, (q.below (below_box _)).mono (by have := Nat.mul_le_mul_right 6000 hk; omega), hk1.trans (KeepT.of_below (below_box _))⟩
      | some L =>
        simp only [Option.isNone_some] at q1
        go_wp2_with (go_at_call 63; refine (HC.out _ (HW1.out.below (below_box _))).mono ?_; rintro e w2 ⟨rfl, hw2, hk2⟩)
        exact ⟨⟨k + 1, by omega, by go_num, by rw [Nat.succ_mul, ← Nat.add_assoc]; exact hw2, (hk1.trans (KeepT.of_below (below_box _))).trans hk2⟩, by simp [intOf]; omega⟩
    · obtain rfl : k = l.length := by omega
      go_wp2_with fail
      go_end0
      rw [← HSA.out]
      exact ⟨rfl, hw1, hk1⟩
end Go.Proofs.YtaooidckmepdeaaDoor
