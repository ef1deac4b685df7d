/- The walk of BatchFlips. -/
import Derived.Test.YtgpeldmplkijlaaDoorFl
import Derived.Test.YtgpeldmplkijlaaDoorDq
import Derived.Test.YtgpeldmplkijlaaDoorWe
namespace Go.Proofs.YtgpeldmplkijlaaDoor
set_option linter.unusedSimpArgs false
set_option linter.unusedVariables false
open Go.RowKit
set_option maxHeartbeats 3200000 in
set_option maxRecDepth 100000 in
theorem flips_ok (b : Ba) (a : Option Addr) (cap : Nat) (x1 x2 x3 : Int) (w : World) (ht : Tab w) (w0 : BaOk w b a cap) (hc : chkB b = 0) (r1 : -9223372036854775808 ≤ x1 ∧ x1 ≤ 9223372036854775807) (r2 : -9223372036854775808 ≤ x2 ∧ x2 ≤ 9223372036854775807) (r3 : -9223372036854775808 ≤ x3 ∧ x3 ≤ 9223372036854775807) :
    Calls Tryd.prog 8 #[bav b a cap, .int .i64 x1, .int .i64 x2, .int .i64 x3] w fun e w' => e = .returned (.bool true) ∧ Below w.heap.size w w' := by
  obtain ⟨hr, hi, hl, hn, _⟩ := w0
  have hlen := encB_len b
  have h6 := (chk_parts hc).2
  have HSM : Hid (∀ x, RRow x a b.rs → Calls Tryd.prog 11 #[.slice a b.rs.length cap] x fun e w' => IsB b.rs.length e ∧ Below x.heap.size x w') := fun x hx => small_any a cap b.rs x hx hl
  have HE : Hid (∀ x, Tab x → RRow x a b.rs → Calls Tryd.prog 13 #[bav b a cap] x fun e w' => ∃ g, e = .returned (.tuple #[.slice (some ⟨g, 0, none⟩) (encBL b).length (encBL b).length, .int .i64 0]) ∧ Own x.heap.size w' g (encBL b).length (encBL b) ∧ Below x.heap.size x w') := fun x h1 h2 => bencode_ok b a cap x h2 hi h1 hc
  have HA : Hid (∀ x, Tab x → Calls Tryd.prog 12 #[] x fun e w' => e = .returned (.bool true) ∧ Below x.heap.size x w') := fun x h => awake_any x h
  have hL48 : 48 ≤ (encBL b).length := by omega
  have hL60 : (encBL b).length ≤ 6000 := by omega
  have HLB : Hid (∀ i, (encBL b).getD i 0 < 256) := lt_mem (encB_mem (chk_parts hc).1)
  have q1 := Int.emod_lt_of_pos x3 (show (0 : Int) < ((encBL b).length : Int) by omega)
  have q1' := Int.emod_nonneg x3 (show ((encBL b).length : Int) ≠ 0 by omega)
  have q2 := Int.emod_lt_of_pos x1 (show (0 : Int) < (((encBL b).length - 16 : Nat) : Int) by omega)
  have q2' := Int.emod_nonneg x1 (show (((encBL b).length - 16 : Nat) : Int) ≠ 0 by omega)
  have q3 := Int.emod_lt_of_pos x2 (show (0 : Int) < ((255 : Nat) : Int) by omega)
  have q3' := Int.emod_nonneg x2 (show ((255 : Nat) : Int) ≠ 0 by omega)
  have HR1 : Hid _ := fun x => round_any x3 (encBL b).length x r3.1 r3.2 (by omega) (by omega)
  have HR2 : Hid _ := fun x => round_any x1 ((encBL b).length - 16) x r1.1 r1.2 (by omega) (by omega)
  have HR3 : Hid _ := fun x => round_any x2 255 x r2.1 r2.2 (by omega) (by omega)
  have HCU : Hid ((x3 % ((encBL b).length : Int)).toNat < (encBL b).length → ¬ OkB ((encBL b).take (x3 % ((encBL b).length : Int)).toNat)) := fun h => okB_cut hc hi h
  have HFL : Hid (∀ k d, 16 ≤ k → k < (encBL b).length → 0 < d → d < 256 → ¬ OkB ((encBL b).set k ((encBL b).getD k 0 ^^^ d))) := fun k d h1 h2 h3 h4 => okB_flip hc hi h1 h2 h3 h4
  have hj1 : (x3 % ((encBL b).length : Int)).toNat < (encBL b).length := by omega
  have hj2 : (x1 % (((encBL b).length - 16 : Nat) : Int)).toNat < (encBL b).length - 16 := by omega
  have hj3 : (x2 % ((255 : Nat) : Int)).toNat < 255 := by omega
  clear q1 q1' q2 q2' q3 q3' r1 r2 r3 hlen h6 hc
  generalize (x3 % ((encBL b).length : Int)).toNat = j1 at *
  generalize (x1 % (((encBL b).length - 16 : Nat) : Int)).toNat = j2 at *
  generalize (x2 % ((255 : Nat) : Int)).toNat = j3 at *
  have HNC := HCU.out hj1
  have HNF := HFL.out (16 + j2) (j3 + 1) (by omega) (by omega) (by omega) (by omega)
  clear HCU HFL
  generalize encBL b = L at *
  obtain ⟨kk, HKK⟩ : ∃ kk, Hid (16 + j2 = kk) := ⟨_, rfl⟩
  have hkk : kk < L.length := by rw [← HKK.out]; omega
  rw [HKK.out] at HNF
  have hcl := HLB.out kk
  obtain ⟨c, HCC⟩ : ∃ c, Hid (L.getD kk 0 = c) := ⟨_, rfl⟩
  rw [HCC.out] at HNF hcl
  have HDE : Hid (∀ x a c l, Tab x → Row x a l → l.length ≤ c → c ≤ maxLen → l.length ≤ 6000 → ¬ OkB l → Calls Tryd.prog 18 #[.slice a l.length c] x fun e w' => e = .returned (.tuple #[bav bz none 0, .int .i64 0, .int .i64 10]) ∧ Below x.heap.size x w') := by
    intro x a c l h1 h2 h3 h4 h5 h6
    refine (bdecode_any a c l x h1 h2 h3 h4 (by omega)).mono ?_
    rintro e w' ⟨_, q, hb⟩
    exact ⟨q h6, hb⟩
  have HD1 : Hid (∀ x g, Tab x → Own w.heap.size x g L.length L → Calls Tryd.prog 18 #[.slice (some ⟨g, 0, none⟩) j1 L.length] x fun e w' => e = .returned (.tuple #[.agg #[.int .i64 0, .int .i64 0, .int .i64 0, .int .i64 0, .slice none 0 0], .int .i64 0, .int .i64 10]) ∧ Below x.heap.size x w') := by
    intro x g h1 h2
    have hle : (L.take j1).length = j1 := by rw [List.length_take]; omega
    have h3 := HDE.out x (some ⟨g, 0, none⟩) L.length (L.take j1) h1 (row_take j1 (h2.row HLB.out)) (by rw [hle]; omega) (by unfold maxLen; omega) (by rw [hle]; omega) HNC
    rw [hle] at h3
    exact h3
  have HD2 : Hid (∀ x g, Tab x → Own w.heap.size x g L.length (L.set kk (c ^^^ (j3 + 1))) → Calls Tryd.prog 18 #[.slice (some ⟨g, 0, none⟩) L.length L.length] x fun e w' => e = .returned (.tuple #[.agg #[.int .i64 0, .int .i64 0, .int .i64 0, .int .i64 0, .slice none 0 0], .int .i64 0, .int .i64 10]) ∧ Below x.heap.size x w') := by
    intro x g h1 h2
    have hle : (L.set kk (c ^^^ (j3 + 1))).length = L.length := List.length_set
    have hb : ∀ i, (L.set kk (c ^^^ (j3 + 1))).getD i 0 < 256 := by
      intro i
      by_cases hi : i < L.length
      · rw [getD_set _ _ _ _ hi]
        split
        · exact Nat.xor_lt_two_pow (n := 8) (by omega) (by omega)
        · exact HLB.out i
      · rw [getD_out _ _ (by rw [hle]; omega)]; omega
    have h3 := HDE.out x (some ⟨g, 0, none⟩) L.length _ h1 (h2.row hb) (by rw [hle]; omega) (by unfold maxLen; omega) (by rw [hle]; omega) HNF
    rw [hle] at h3
    exact h3
  have HSET : Hid (∀ x g, Own w.heap.size x g L.length L → Own w.heap.size (x.setCell ⟨g, kk, none⟩ (.int .u8 ((c ^^^ (j3 + 1) : Nat) : Int))) g L.length (L.set kk (c ^^^ (j3 + 1)))) := fun x g h => h.store kk _
  clear HDE HNC HNF
  obtain ⟨base, span, prod, seq, rs⟩ := b
  simp only [bav] at *
  have HR0 : Hid (RRow w a rs) := hr
  have HT : Hid (Tab w) := ht
  clear hr ht
  have hLI : ¬ (L.length : Int) < 48 := by omega
  have hLd : decide ((L.length : Int) < 48) = false := decide_eq_false hLI
  have hj1I : (j1 : Int) ≤ (L.length : Int) := by omega
  have hs16 : IntKind.i64.wrap ((L.length : Int) - 16) = ((L.length - 16 : Nat) : Int) := by rw [IntKind.wrap_i64]; omega
  have hk16 : IntKind.i64.wrap (16 + (j2 : Int)) = (kk : Int) := by have := HKK.out; rw [IntKind.wrap_i64]; omega
  have hkI : (kk : Int) < (L.length : Int) := by omega
  have hd1 : IntKind.i64.wrap ((j3 : Int) + 1) = ((j3 + 1 : Nat) : Int) := by rw [IntKind.wrap_i64]; omega
  have hd2 : IntKind.u8.wrap ((j3 + 1 : Nat) : Int) = ((j3 + 1 : Nat) : Int) := by rw [IntKind.wrap_u8]; omega
  have hxr : bits .xor .u8 (c : Int) ((j3 + 1 : Nat) : Int) = ((c ^^^ (j3 + 1) : Nat) : Int) := u8_xor_nat c (j3 + 1) hcl (by omega)
  obtain ⟨n16, HN16⟩ : ∃ n16, Hid (L.length - 16 = n16) := ⟨_, rfl⟩
  rw [HN16.out] at hs16 HR2 hj2
  obtain ⟨dd, HDD⟩ : ∃ dd, Hid (j3 + 1 = dd) := ⟨_, rfl⟩
  rw [HDD.out] at hd1 hd2 hxr HSET HD2
  generalize c ^^^ dd = cx at *
  have ks : ∀ y g, (Instr.slice 27 (.slice (some ⟨g, 0, none⟩) L.length L.length) none (some (.int .i64 (j1 : Int))) none).run Tryd.prog y = .ok (.slice (some ⟨g, 0, none⟩) j1 L.length) y := fun y g => run_slice_to y ⟨g, 0, none⟩ L.length L.length j1 (by omega) (by omega)
  go_enter Tryd.func8, Tryd.ntmps8
  go_wp2_with (first
    | (go_at_call 11; refine (HSM.out _ (RRow.below HR0.out (below_box _))).mono ?_; rintro e w1 ⟨⟨sm, rfl, hsm⟩, hb1⟩; have HB1 : Hid (BxS w (bcells ⟨base, span, prod, seq, rs⟩ a cap) w1) := BxS.below (BxS.new w _) hb1; obtain ⟨c0, c1, c2, c3, c4, cz⟩ := BxS.cells HB1.out; simp only at c0 c1 c2 c3 c4; clear hb1 hsm)
    | (go_at_call 12; have _t := HB1; refine (HA.out _ (Tab.below HT.out HB1.out.bel)).mono ?_; rintro e w9 ⟨rfl, hb9⟩; have HB9 : Hid (Below w.heap.size w w9) := HB1.out.bel.trans (hb9.mono HB1.out.bel.size))
    | (go_at_call 13; refine (HE.out _ (Tab.below HT.out HB1.out.bel) (RRow.below HR0.out HB1.out.bel)).mono ?_; rintro e w2 ⟨g, rfl, hown, hb2⟩; have HO2 : Hid (Own w.heap.size w2 g L.length L) := own_le hown HB1.out.bel.size; have HB2 : Hid (Below w.heap.size w w2) := HB1.out.bel.trans (hb2.mono HB1.out.bel.size); clear HB1 c0 c1 c2 c3 c4 cz hown hb2)
    | (go_at_call 26; have _t := HO2; refine (HR1.out _).mono ?_; rintro e w3 ⟨rfl, hw⟩; subst w3)
    | (go_at_call 18; refine (HD1.out _ _ (Tab.below HT.out HB2.out) HO2.out).mono ?_; rintro e w4 ⟨rfl, hb4⟩; have HO4 : Hid (∀ o, Own w.heap.size (w4.alloc o) g L.length L) := (fun o => Own.below (Own.below HO2.out hb4) (below_box _)); have HB4 : Hid (Below w.heap.size w w4) := HB2.out.trans (hb4.mono HB2.out.size); clear HO2 HB2 hb4)
    | (go_at_call 26; refine (HR2.out _).mono ?_; rintro e w5 ⟨rfl, hw⟩; subst w5))
  · go_ret
    exact ⟨rfl, HB9.out⟩
  · generalize hY : World.alloc w4 _ = Y
    have HOY : Hid (Own w.heap.size Y g L.length L) := by rw [← hY]; exact HO4.out _
    have HBY : Hid (Below w.heap.size w Y) := by rw [← hY]; exact HB4.out.alloc HB4.out.size _
    clear hY HO4 HB4
    have hYc := HOY.out.cell kk hkk
    rw [HCC.out] at hYc
    have hYf := HOY.out.free kk
    have hgB := HOY.out.ge
    have hS0 : (fun y : World => y.cell? ⟨g, kk, none⟩ = some (.int .u8 (c : Int))) Y.drew := hYc
    refine wp_region_lat (fun y : World => y.cell? ⟨g, kk, none⟩ = some (.int .u8 (c : Int))) 12 (by kernel_rfl) hS0 (fun hHeld => ?_)
    clear hS0
    refine lat_take 0 (v := ?_) rfl (by kernel_rfl) (by kernel_rfl) (by kernel_rfl) (by kernel_rfl) (fun _ _ _ h => h) (by rfl) ?_ (by assumption) ?_
    rotate_left
    · (intro y hSy; (try dsimp only at hSy); go_simp <;> with_reducible rfl)
    try simp only [Act.put, List.setIfInBounds_toArray, List.set_cons_zero, List.set_cons_succ]
    refine lat_take 1 (v := ?_) rfl (by kernel_rfl) (by kernel_rfl) (by kernel_rfl) (by kernel_rfl) (fun _ _ _ h => h) (by rfl) ?_ (by assumption) ?_
    rotate_left
    · (intro y hSy; (try dsimp only at hSy); go_simp <;> with_reducible rfl)
    try simp only [Act.put, List.setIfInBounds_toArray, List.set_cons_zero, List.set_cons_succ]
    refine lat_take 2 (v := ?_) rfl (by kernel_rfl) (by kernel_rfl) (by kernel_rfl) (by kernel_rfl) (fun _ _ _ h => h) (by rfl) ?_ (by assumption) ?_
    rotate_left
    · (intro y hSy; (try dsimp only at hSy); go_simp <;> with_reducible rfl)
    try simp only [Act.put, List.setIfInBounds_toArray, List.set_cons_zero, List.set_cons_succ]
    refine lat_take 3 (v := ?_) rfl (by kernel_rfl) (by kernel_rfl) (by kernel_rfl) (by kernel_rfl) (fun _ _ _ h => h) (by rfl) ?_ (by assumption) ?_
    rotate_left
    · (intro y hSy; (try dsimp only at hSy); go_simp <;> with_reducible rfl)
    try simp only [Act.put, List.setIfInBounds_toArray, List.set_cons_zero, List.set_cons_succ]
    refine lat_take 4 (v := ?_) rfl (by kernel_rfl) (by kernel_rfl) (by kernel_rfl) (by kernel_rfl) (fun _ _ _ h => h) (by rfl) ?_ (by assumption) ?_
    rotate_left
    · (intro y hSy; (try dsimp only at hSy); go_simp <;> with_reducible rfl)
    try simp only [Act.put, List.setIfInBounds_toArray, List.set_cons_zero, List.set_cons_succ]
    refine lat_take 5 (v := ?_) rfl (by kernel_rfl) (by kernel_rfl) (by kernel_rfl) (by kernel_rfl) (fun _ _ _ h => h) (by rfl) ?_ (by assumption) ?_
    rotate_left
    · (intro y hSy; (try dsimp only at hSy); go_simp <;> with_reducible rfl)
    try simp only [Act.put, List.setIfInBounds_toArray, List.set_cons_zero, List.set_cons_succ]
    refine lat_take 6 (v := ?_) rfl (by kernel_rfl) (by kernel_rfl) (by kernel_rfl) (by kernel_rfl) (fun _ _ _ h => h) (by rfl) ?_ (by assumption) ?_
    rotate_left
    · (intro y hSy; (try dsimp only at hSy); go_simp <;> with_reducible rfl)
    try simp only [Act.put, List.setIfInBounds_toArray, List.set_cons_zero, List.set_cons_succ]
    refine lat_one 7 rfl (by kernel_rfl) (by decide) (by rfl) (fun K hK => ?_)
    go_simp
    refine Calls.mono (HR3.out _) ?_
    rintro e y2 ⟨rfl, hw⟩
    subst y2
    try dsimp only
    refine hK.out _ _ hHeld (fun hH2 => ?_)
    clear hK hHeld
    try simp only [Act.put, List.setIfInBounds_toArray, List.set_cons_zero, List.set_cons_succ]
    refine lat_take 8 (v := ?_) rfl (by kernel_rfl) (by kernel_rfl) (by kernel_rfl) (by kernel_rfl) (fun _ _ _ h => h) (by rfl) ?_ (by assumption) ?_
    rotate_left
    · (intro y hSy; (try dsimp only at hSy); go_simp <;> with_reducible rfl)
    try simp only [Act.put, List.setIfInBounds_toArray, List.set_cons_zero, List.set_cons_succ]
    refine lat_take 9 (v := ?_) rfl (by kernel_rfl) (by kernel_rfl) (by kernel_rfl) (by kernel_rfl) (fun _ _ _ h => h) (by rfl) ?_ (by assumption) ?_
    rotate_left
    · (intro y hSy; (try dsimp only at hSy); go_simp <;> with_reducible rfl)
    try simp only [Act.put, List.setIfInBounds_toArray, List.set_cons_zero, List.set_cons_succ]
    refine lat_take 10 (v := ?_) rfl (by kernel_rfl) (by kernel_rfl) (by kernel_rfl) (by kernel_rfl) (fun _ _ _ h => h) (by rfl) ?_ (by assumption) ?_
    rotate_left
    · (intro y hSy; (try dsimp only at hSy); go_simp <;> with_reducible rfl)
    try simp only [Act.put, List.setIfInBounds_toArray, List.set_cons_zero, List.set_cons_succ]
    refine lat_take 11 (v := ?_) rfl (by kernel_rfl) (by kernel_rfl) (by kernel_rfl) (by kernel_rfl) (fun _ _ _ h => h) (by rfl) ?_ (by assumption) ?_
    rotate_left
    · (intro y hSy; (try dsimp only at hSy); go_simp <;> with_reducible rfl)
    try simp only [Act.put, List.setIfInBounds_toArray, List.set_cons_zero, List.set_cons_succ]
    refine lat_last 12 rfl (by kernel_rfl) (by decide) (by kernel_rfl) (by rfl) (fun K hK => ?_)
    have hfL : Y.drew.frozen? ⟨g, kk, none⟩ = false := hYf
    have hcL : Y.drew.cell? ⟨g, kk, none⟩ = some (.int .u8 (c : Int)) := hYc
    go_simp
    try dsimp only
    refine hK.out _ _ ?_
    clear hK hH2
    try simp only [Act.put, List.setIfInBounds_toArray, List.set_cons_zero, List.set_cons_succ]
    have HOZ : Hid (Own w.heap.size (Y.setCell ⟨g, kk, none⟩ (.int .u8 (cx : Int))).drew g L.length (L.set kk cx)) := (HSET.out _ _ HOY.out).drewN 1
    have HBZ : Hid (Below w.heap.size w (Y.setCell ⟨g, kk, none⟩ (.int .u8 (cx : Int))).drew) := (HBY.out.setCell (p := ⟨g, kk, none⟩) hgB.1 _).drew
    generalize (Y.setCell ⟨g, kk, none⟩ (.int .u8 (cx : Int))).drew = Z at HOZ HBZ ⊢
    clear hYc hYf hgB HOY HBY
    go_wp2_with (first
      | (go_at_call 18; refine (HD2.out _ _ (Tab.below HT.out HBZ.out) HOZ.out).mono ?_; rintro e w6 ⟨rfl, hb6⟩; have HB6 : Hid (Below w.heap.size w w6) := HBZ.out.trans (hb6.mono HBZ.out.size); clear hb6 HOZ HBZ)
      | (go_at_call 12; refine (HA.out _ (Tab.below HT.out (HB6.out.alloc HB6.out.size _))).mono ?_; rintro e w7 ⟨rfl, hb7⟩; have HB7 : Hid (Below w.heap.size w w7) := (HB6.out.alloc HB6.out.size _).trans (hb7.mono (by have := HB6.out.size; simp; omega))))
    go_ret
    exact ⟨rfl, HB7.out⟩
set_option maxRecDepth 100000 in
theorem flips_no (b : Ba) (a : Option Addr) (cap : Nat) (x1 x2 x3 : Int) (w : World) (ht : Tab w) (w0 : BaOk w b a cap) (hc : chkB b ≠ 0) :
    Calls Tryd.prog 8 #[bav b a cap, .int .i64 x1, .int .i64 x2, .int .i64 x3] w fun e w' => e = .returned (.bool true) ∧ Below w.heap.size w w' := by
  obtain ⟨hr, hi, hl, hn, _⟩ := w0
  have HSM : Hid (∀ x, RRow x a b.rs → Calls Tryd.prog 11 #[.slice a b.rs.length cap] x fun e w' => IsB b.rs.length e ∧ Below x.heap.size x w') := fun x hx => small_any a cap b.rs x hx hl
  have HE := bencode_any b a cap hi hl
  unfold BEnc at HE
  rw [show encBR b = [] by unfold encBR; rw [if_neg hc]] at HE
  have HE1 : Hid _ := HE
  clear HE
  have HA : Hid (∀ x, Tab x → Calls Tryd.prog 12 #[] x fun e w' => e = .returned (.bool true) ∧ Below x.heap.size x w') := fun x h => awake_any x h
  have hne : (chkB b != 0) = true := by rw [bne_iff_ne]; exact hc
  generalize chkB b = ck at *
  obtain ⟨base, span, prod, seq, rs⟩ := b
  simp only [bav] at *
  have HR0 : Hid (RRow w a rs) := hr
  have HT : Hid (Tab w) := ht
  clear hr ht hc
  go_enter Tryd.func8, Tryd.ntmps8
  go_wp2_with (first
    | (go_at_call 11; refine (HSM.out _ (RRow.below HR0.out (below_box _))).mono ?_; rintro e w1 ⟨⟨sm, rfl, hsm⟩, hb1⟩; have HB1 : Hid (BxS w (bcells ⟨base, span, prod, seq, rs⟩ a cap) w1) := BxS.below (BxS.new w _) hb1; obtain ⟨c0, c1, c2, c3, c4, cz⟩ := BxS.cells HB1.out; simp only at c0 c1 c2 c3 c4; clear hb1 hsm)
    | (go_at_call 13; refine (HE1.out _ (Tab.below HT.out HB1.out.bel) (RRow.below HR0.out HB1.out.bel)).mono ?_; rintro e w2 ⟨v2, rfl, hown2, hb2⟩; obtain ⟨a2, k2, rfl, _, _⟩ := owns_sl hown2 (by simp); have HB2 : Hid (Below w.heap.size w w2) := HB1.out.bel.trans (hb2.mono HB1.out.bel.size); clear HB1 c0 c1 c2 c3 c4 cz hown2 hb2)
    | (go_at_call 12; have _t := HB1; refine (HA.out _ (Tab.below HT.out HB1.out.bel)).mono ?_; rintro e w9 ⟨rfl, hb9⟩; have HB9 : Hid (Below w.heap.size w w9) := HB1.out.bel.trans (hb9.mono HB1.out.bel.size))
    | (go_at_call 12; refine (HA.out _ (Tab.below HT.out HB2.out)).mono ?_; rintro e w9 ⟨rfl, hb9⟩; have HB9 : Hid (Below w.heap.size w w9) := HB2.out.trans (hb9.mono HB2.out.size)))
  all_goals
    go_ret
    exact ⟨rfl, HB9.out⟩
theorem batchFlips_walk (b0 : Ba) (a0 : Option Addr) (cap0 : Nat) (a1 a2 a3 : Int) (w : World) (ht : Tab w) (w0 : BaOk w b0 a0 cap0) (w1 : (Lit.int .i64 a1).wf = true) (w2 : (Lit.int .i64 a2).wf = true) (w3 : (Lit.int .i64 a3).wf = true) :
    Calls Tryd.prog 8 #[bav b0 a0 cap0, .int .i64 a1, .int .i64 a2, .int .i64 a3] w fun e w' => e = .returned (.bool true) ∧ Below w.heap.size w w' := by
  by_cases hc : chkB b0 = 0
  · exact flips_ok b0 a0 cap0 a1 a2 a3 w ht w0 hc (bd64 w1) (bd64 w2) (bd64 w3)
  · exact flips_no b0 a0 cap0 a1 a2 a3 w ht w0 hc
end Go.Proofs.YtgpeldmplkijlaaDoor
