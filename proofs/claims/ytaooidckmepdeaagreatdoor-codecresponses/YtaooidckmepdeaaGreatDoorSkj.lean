/- Pz Or Is Rz -/
import Derived.Test.YtaooidckmepdeaaGreatDoorSki
namespace Go.Proofs.YtaooidckmepdeaaGreatDoor
set_option linter.unusedSimpArgs false
set_option linter.unusedVariables false
open Go.RowKit
set_option maxHeartbeats 4000000 in
set_option maxRecDepth 100000 in
theorem rs_yes0 (kn im : Nat) (b : Bd) (p : Pt) (w : World) (hv : VB b) (hz : ∀ f, f ≤ 14 → f ≠ 12 → b f = fz) (ht : Tab w) (hr : SRows w b p) (l1 : (b 17).nm.length ≤ 300) (l2 : (b 18).ct.length ≤ 300) (l3 : (b 19).bs.length ≤ 300) (ln : ∀ s, s ∈ (b 17).nm → s.size ≤ 30000) (hk8 : kn ≤ 8) (him : im ≤ 4294967295) (hk0 : ¬ (kn : Int) = 0) (r : List Nat) (hrow : rowOr (rowA (kn : Int)) = r) (st : Nat → Ls) (hst : ∀ j, st j = oa (some (([kn] ++ lay 4 im) ++ [0])) (eFs b (r.take j))) (R : Bool) (hR : (!(moreB b r)) = R) (SX : Ls) (HSX : Hid (SX = if R = true then st r.length else none)) :
    Calls Tryz.prog 14 #[.agg (rsc (kn : Int) (im : Int) (0 : Int) b p)] w (EncP SX w) := by
  have g1 : ¬ (kn : Int) < 0 := by omega
  have g2 : ¬ (kn : Int) > 8 := by omega
  have g3 : ¬ (im : Int) < 0 := by omega
  have g4 : ¬ (im : Int) > 4294967295 := by omega
  have g7 : IntKind.u8.wrap (0 : Int) = (0 : Int) := by decide
  have KA : Hid (∀ x : World, (Instr.alloc 73 true (.tuple #[])).run Tryz.prog x = .ok (.pointer (some ⟨x.heap.size, 0, none⟩)) (x.alloc (.cells zbg 73))) := run_alloc73
  have KC : Hid (∀ x : World, (Instr.alloc 38 true (.tuple #[])).run Tryz.prog x = .ok (.pointer (some ⟨x.heap.size, 0, none⟩)) (x.alloc (.cells z40 38))) := run_alloc38
  have KB : Hid (∀ x : World, (Instr.build 38 #[(0, .int .i64 (kn : Int)), (1, .int .i64 (im : Int)), (2, .int .i64 (0 : Int))]).run Tryz.prog x = .ok (.agg (rsm (kn : Int) (im : Int) (0 : Int) b p [])) x) := run_build38 (kn : Int) (im : Int) (0 : Int) b p
  have HAN : Hid (∀ x, Calls Tryz.prog 34 #[.agg (rsc (kn : Int) (im : Int) (0 : Int) b p)] x fun e w' => e = .returned (.agg (gba (kn : Int) (im : Int) b p)) ∧ Below x.heap.size x w') := fun x => answer_any (kn : Int) (im : Int) (0 : Int) b p hv hz x
  have HRW : Hid (∀ x, Calls Tryz.prog 23 #[.int .i64 (kn : Int), .bool true] x (RwP r x)) := fun x => by
    have q := rowsA_any (kn : Int) (by omega) (by omega) x
    rw [hrow] at q
    exact q
  have HF1 : Hid ((gba (kn : Int) (im : Int) b p).size = 29) := gbc_size _ _ _ _ _ _ _ _ _
  have HF2 : Hid ((gba (kn : Int) (im : Int) b p).all (·.oneCell') = true) := gbc_one _ _ _ _ _ _ _ _ _ _ _ _ _ _ _ _ _
  have HZS : Hid (zbg.size = 29) := gbc_size _ _ _ _ _ _ _ _ _
  have HM1 : Hid ((rsm (kn : Int) (im : Int) (0 : Int) b p []).size = 9) := (rsm_one ..).1
  have HM2 : Hid ((rsm (kn : Int) (im : Int) (0 : Int) b p []).all (·.oneCell') = true) := (rsm_one ..).2
  have HZ9 : Hid (z40.size = 9) := rfl
  have HQC : Hid (∀ x : World, x.heap[w.heap.size]? = some (.cells (rsc (kn : Int) (im : Int) (0 : Int) b p) 38 (0, 0)) → x.cell? ⟨w.heap.size, 0, none⟩ = some (.int .i64 (kn : Int)) ∧ x.cell? ⟨w.heap.size, 1, none⟩ = some (.int .i64 (im : Int)) ∧ x.cell? ⟨w.heap.size, 2, none⟩ = some (.int .i64 (0 : Int)) ∧ x.cell? ⟨w.heap.size, 3, none⟩ = some (.int .i64 (b 12).n) ∧ x.cell? ⟨w.heap.size, 4, none⟩ = some (.int .i64 (b 15).n) ∧ x.cell? ⟨w.heap.size, 5, none⟩ = some (.int .i64 (b 16).n) ∧ x.cell? ⟨w.heap.size, 6, none⟩ = some (.slice p.na (b 17).nm.length p.nc) ∧ x.cell? ⟨w.heap.size, 7, none⟩ = some (.slice p.ca (b 18).ct.length p.cc) ∧ x.cell? ⟨w.heap.size, 8, none⟩ = some (.slice p.ba p.bs.length p.bc)) := fun x hx => rsx_box hx
  have HX0 : Hid ((w.alloc (.cells (rsc (kn : Int) (im : Int) (0 : Int) b p) 38)).heap[w.heap.size]? = some (.cells (rsc (kn : Int) (im : Int) (0 : Int) b p) 38 (0, 0))) := heap_alloc_new w _
  have HBW : Hid (Below w.heap.size w (w.alloc (.cells (rsc (kn : Int) (im : Int) (0 : Int) b p) 38))) := below_box _
  have HQ9 : Hid ((rsc (kn : Int) (im : Int) (0 : Int) b p).size = 9) := rfl
  obtain ⟨c0, c1, c2, c3, c4, c5, c6, c7, c8⟩ := HQC.out _ HX0.out
  have HSM : Hid (∀ y, Below w.heap.size w y → Calls Tryz.prog 11 #[.agg (rsm (kn : Int) (im : Int) (0 : Int) b p r), .agg (rsc (kn : Int) (im : Int) (0 : Int) b p)] y fun e w' => e = .returned (.bool R) ∧ Below y.heap.size y w') := fun y hy => by
    have q := sameX_any (kn : Int) (im : Int) (0 : Int) b p r y (hr.below hy) hv hz l1 l2 l3
    rw [hR] at q
    exact q
  have HIN : Hid (∀ f, f ∈ r → f = 12 ∨ f = 15 ∨ f = 16 ∨ f = 17 ∨ f = 18 ∨ f = 19) := fun f hf => by rw [← hrow] at hf; exact rowA_in f hf
  have HLEN : Hid (r.length ≤ 3) := by show _ ≤ _; rw [← hrow]; exact rowA_len
  have HFD : Hid (∀ x P s M f, f ∈ r → M ≤ 1000000000 → PnS w P x s M → Calls Tryz.prog 36 #[(.pointer (some ⟨P, 0, none⟩)), .agg #[.int .i64 (wh f), .int .i64 (f : Int)], .agg (gba (kn : Int) (im : Int) b p)] x (PP w P x (oa s (eK (kd f) (b f))) (M + 10400000))) := fun x P s M f q1 q2 q3 => pfieldS_any w x P s M f (kn : Int) (im : Int) b p hv hz ht hr l1 l2 l3 ln (HIN.out f q1) q2 q3
  have HG0 : Hid ((rsm (kn : Int) (im : Int) (0 : Int) b p []) = (rsm (kn : Int) (im : Int) (0 : Int) b p (r.take 0))) := by show _ = _; rw [List.take_zero]
  have hk8w : IntKind.u8.wrap (kn : Int) = (kn : Int) := by rw [IntKind.wrap_u8]; omega
  have hi64 : IntKind.u64.wrap (im : Int) = (im : Int) := by rw [IntKind.wrap_u64]; omega
  have HKN : Hid (kn < 256 ∧ im ≤ 18446744073709551615) := ⟨by omega, by omega⟩
  have HST : Hid (∀ j, st j = oa (some (([kn] ++ lay 4 im) ++ [0])) (eFs b (r.take j))) := hst
  clear hr hv hz ht l1 l2 l3 ln hst hR hk8 him
  clear hrow
  have tokA : True := trivial
  generalize (gba (kn : Int) (im : Int) b p) = CSF at *
  generalize zbg = ZB at *
  generalize z40 = ZR at *
  generalize hg0 : (rsm (kn : Int) (im : Int) (0 : Int) b p []) = CS0 at *
  clear hg0
  go_enter Tryz.func14, Tryz.ntmps14
  go_upto_region 5 with (first
    | (have _h := tokA; refine wpList_load_row rfl 38 _ rfl w.heap.size rfl 38 (rsc (kn : Int) (im : Int) (0 : Int) b p) (0, 0) _ (by exact HX0.out) Tryz.underlying38 rfl (by rw [HQ9.out]; exact Tryz.info38) ?_; clear _h tokA)
    | (go_at_call 34; refine (HAN.out _).mono ?_; rintro e w1 ⟨rfl, hb9⟩; have HX1 : Hid (w1.heap[w.heap.size]? = some (.cells (rsc (kn : Int) (im : Int) (0 : Int) b p) 38 (0, 0))) := box_keep' HX0.out hb9; have HB1 : Hid (Below w.heap.size w w1) := HBW.out.trans (hb9.mono HBW.out.size); clear hb9 c0 c1 c2 c3 c4 c5 c6 c7 c8; have tokB : True := trivial)
    | (have _h := tokB; refine wpList_allocZ KA.out rfl rfl w1.heap.size (by rfl) ?_; clear _h tokB; have tokC : True := trivial; simp only [Act.put, List.setIfInBounds_toArray, List.set_cons_zero, List.set_cons_succ])
    | (have _h := tokC; refine wpList_store_row rfl 73 _ _ rfl w1.heap.size CSF rfl rfl 73 ZB (by exact heap_alloc_new w1 _) (by rw [HF1.out]; exact Tryz.info73) (by rw [HF1.out]; exact HZS.out) HF2.out ?_; obtain ⟨hx9, hb9⟩ := box_new w1 ZB CSF 73; generalize World.setRow _ w1.heap.size CSF = w2 at *; have HX2 : Hid (w2.heap[w.heap.size]? = some (.cells (rsc (kn : Int) (im : Int) (0 : Int) b p) 38 (0, 0))) := box_keep' HX1.out hb9; have HF4 : Hid (w2.heap[w1.heap.size]? = some (.cells CSF 73 (0, 0))) := hx9; have HB2 : Hid (Below w.heap.size w w2) := HB1.out.trans (hb9.mono HB1.out.size); have HS2 : Hid (w1.heap.size < w2.heap.size) := (Array.getElem?_eq_some_iff.1 hx9).1; obtain ⟨c0, c1, c2, c3, c4, c5, c6, c7, c8⟩ := HQC.out _ HX2.out; clear hx9 hb9; clear _h tokC; have tokD : True := trivial)
    | (have _h := tokD; refine wpList_buildZ (parts := #[(0, .tmp 50), (1, .tmp 52), (2, .tmp 54)]) KB.out rfl rfl (by rfl) ?_; clear _h tokD; have tokE : True := trivial; simp only [Act.put, List.setIfInBounds_toArray, List.set_cons_zero, List.set_cons_succ])
    | (have _h := tokE; refine wpList_allocZ KC.out rfl rfl w2.heap.size (by rfl) ?_; clear _h tokE; have tokF : True := trivial; simp only [Act.put, List.setIfInBounds_toArray, List.set_cons_zero, List.set_cons_succ])
    | (have _h := tokF; refine wpList_store_row rfl 38 _ _ rfl w2.heap.size CS0 rfl rfl 38 ZR (by exact heap_alloc_new w2 _) (by rw [HM1.out]; exact Tryz.info38) (by rw [HM1.out]; exact HZ9.out) HM2.out ?_; obtain ⟨hx9, hb9⟩ := box_new w2 ZR CS0 38; generalize World.setRow _ w2.heap.size CS0 = w3 at *; have HX3 : Hid (w3.heap[w.heap.size]? = some (.cells (rsc (kn : Int) (im : Int) (0 : Int) b p) 38 (0, 0))) := box_keep' HX2.out hb9; have HF43 : Hid (w3.heap[w1.heap.size]? = some (.cells CSF 73 (0, 0))) := box_keep' HF4.out hb9; have HF53 : Hid (w3.heap[w2.heap.size]? = some (.cells CS0 38 (0, 0))) := hx9; have HB3 : Hid (Below w.heap.size w w3) := HB2.out.trans (hb9.mono HB2.out.size); clear c0 c1 c2 c3 c4 c5 c6 c7 c8; obtain ⟨c0, c1, c2, c3, c4, c5, c6, c7, c8⟩ := HQC.out _ HX3.out; clear hx9 hb9; clear _h tokF; have tokG : True := trivial))
  try simp only [Act.put, List.setIfInBounds_toArray, List.set_cons_zero, List.set_cons_succ]
  go_cut [6] from 56 to 66 (fun s6 wc => ∃ P, s6 = .pointer (some ⟨P, 0, none⟩) ∧ RPS w w1.heap.size w2.heap.size P (rsc (kn : Int) (im : Int) (0 : Int) b p) CSF CS0 none [] (some ([kn] ++ lay 4 im)) 5 wc)
  case first =>
    clear tokG c2 c3 c4 c5 c6 c7 c8
    have HP1 : Hid (∀ x v3 l3 c3, Below w3.drew.heap.size w3.drew x → x.ownsRow w3.drew.heap.size 5 1 (.slice v3 l3 c3) 5 (cv ([kn] ++ lay 4 im)) → l3 = 5 → RPS w w1.heap.size w2.heap.size x.heap.size (rsc (kn : Int) (im : Int) (0 : Int) b p) CSF CS0 none [] (some ([kn] ++ lay 4 im)) 5 (x.alloc (.cells #[.slice v3 l3 c3, .bool false] 99))) := fun x v3 l3 c3 hx ho e3 => by
      subst e3
      have bx : Below w3.heap.size w3 x := (below_drew w3).trans hx
      have b2 : Below w3.heap.size w3 (x.alloc (.cells #[.slice v3 5 c3, .bool false] 99)) := bx.trans ((below_box _).mono bx.size)
      have hby : Byt ([kn] ++ lay 4 im) := Byt.app (fun q hq => by simp at hq; have := HKN.out.1; omega) (lay_byt 4 _)
      refine ⟨box_keep' HX3.out b2, box_keep' HF43.out b2, box_keep' HF53.out b2, .inl rfl, ⟨⟨_, [kn] ++ lay 4 im, heap_alloc_new x _, ?_, hby, by simp [lay_len], fun L e => by injection e⟩, HB3.out.trans (b2.mono HB3.out.size), Nat.le_trans HB3.out.size bx.size⟩⟩
      have h5 : ([kn] ++ lay 4 im).length = 5 := by simp [lay_len]
      rw [h5]
      exact own_down (own_any ho (below_box _)) HB3.out.size
    have hS0 : w3.drew.cell? ⟨w.heap.size, 0, none⟩ = some (.int .i64 (kn : Int)) ∧ w3.drew.cell? ⟨w.heap.size, 1, none⟩ = some (.int .i64 (im : Int)) := ⟨c0, c1⟩
    have HSB : Hid (∀ x, Below w3.drew.heap.size w3.drew x → x.cell? ⟨w.heap.size, 0, none⟩ = some (.int .i64 (kn : Int)) ∧ x.cell? ⟨w.heap.size, 1, none⟩ = some (.int .i64 (im : Int))) := fun x hx => ⟨(HQC.out x (box_keep' HX3.out ((below_drew w3).trans hx))).1, (HQC.out x (box_keep' HX3.out ((below_drew w3).trans hx))).2.1⟩
    have HONE : Hid (∀ x : World, (x.alloc (.cells #[.int .u8 (kn : Int)] 5)).ownsRow x.heap.size 5 1 (.slice (some ⟨x.heap.size, 0, none⟩) 1 1) 1 (cv [kn])) := fun x => ⟨rfl, .inr ⟨x.heap.size, 1, _, rfl, Nat.le_refl _, heap_alloc_new x _, Nat.le_refl _, by unfold maxLen; omega, rfl, rfl⟩⟩
    have HNIL : Hid (∀ (x : World) B, x.ownsRow B 5 1 (.slice none 0 0) ([] : List Nat).length (cv [])) := fun x B => ⟨rfl, .inl ⟨rfl, rfl⟩⟩
    have hlay : lay 4 im = [] ++ lay 4 im := rfl
    have HLY : Hid (∀ x : World, Calls Tryz.prog 35 #[.slice none 0 0, .int .i64 4, .int .u64 (im : Int)] x (LayP x x.heap.size (lay 4 im) x)) := fun x => layk_any (.slice none 0 0) [] 4 im x x x.heap.size (HNIL.out x _) (Below.refl _ _) (Nat.le_refl _) (by simp) (by decide) HKN.out.2
    have HL4 : Hid (([kn] ++ lay 4 im).length = 5 ∧ (lay 4 im).length = 4) := ⟨by simp [lay_len], lay_len _ _⟩
    clear c0 c1 hlay
    refine wp_region_lat (fun y : World => y.cell? ⟨w.heap.size, 0, none⟩ = some (.int .i64 (kn : Int)) ∧ y.cell? ⟨w.heap.size, 1, none⟩ = some (.int .i64 (im : Int))) 11 (by kernel_rfl) hS0 (fun hHeld => ?_)
    generalize w3.drew = z at *
    refine lat_take 0 (v := ?_) rfl (by kernel_rfl) (by kernel_rfl) (by kernel_rfl) (by kernel_rfl) (fun _ _ _ h => h) (by rfl) ?_ (by assumption) ?_
    rotate_left
    · (intro y hSy; (try dsimp only at hSy); (try obtain ⟨q0, q1⟩ := hSy); go_simp <;> with_reducible rfl)
    try simp only [Act.put, List.setIfInBounds_toArray, List.set_cons_zero, List.set_cons_succ]
    refine lat_take 1 (v := ?_) rfl (by kernel_rfl) (by kernel_rfl) (by kernel_rfl) (by kernel_rfl) (fun _ _ _ h => h) (by rfl) ?_ (by assumption) ?_
    rotate_left
    · (intro y hSy; (try dsimp only at hSy); (try obtain ⟨q0, q1⟩ := hSy); go_simp <;> with_reducible rfl)
    try simp only [Act.put, List.setIfInBounds_toArray, List.set_cons_zero, List.set_cons_succ]
    refine lat_take 2 (v := ?_) rfl (by kernel_rfl) (by kernel_rfl) (by kernel_rfl) (by kernel_rfl) (fun _ _ _ h => h) (by rfl) ?_ (by assumption) ?_
    rotate_left
    · (intro y hSy; (try dsimp only at hSy); (try obtain ⟨q0, q1⟩ := hSy); go_simp <;> with_reducible rfl)
    try simp only [Act.put, List.setIfInBounds_toArray, List.set_cons_zero, List.set_cons_succ]
    refine lat_take 4 (v := ?_) rfl (by kernel_rfl) (by kernel_rfl) (by kernel_rfl) (by kernel_rfl) (fun _ _ _ h => h) (by rfl) ?_ (by assumption) ?_
    rotate_left
    · (intro y hSy; (try dsimp only at hSy); (try obtain ⟨q0, q1⟩ := hSy); go_simp <;> with_reducible rfl)
    try simp only [Act.put, List.setIfInBounds_toArray, List.set_cons_zero, List.set_cons_succ]
    refine lat_take 5 (v := ?_) rfl (by kernel_rfl) (by kernel_rfl) (by kernel_rfl) (by kernel_rfl) (fun _ _ _ h => h) (by rfl) ?_ (by assumption) ?_
    rotate_left
    · (intro y hSy; (try dsimp only at hSy); (try obtain ⟨q0, q1⟩ := hSy); go_simp <;> with_reducible rfl)
    try simp only [Act.put, List.setIfInBounds_toArray, List.set_cons_zero, List.set_cons_succ]
    refine lat_take 6 (v := ?_) rfl (by kernel_rfl) (by kernel_rfl) (by kernel_rfl) (by kernel_rfl) (fun _ _ _ h => h) (by rfl) ?_ (by assumption) ?_
    rotate_left
    · (intro y hSy; (try dsimp only at hSy); (try obtain ⟨q0, q1⟩ := hSy); go_simp <;> with_reducible rfl)
    try simp only [Act.put, List.setIfInBounds_toArray, List.set_cons_zero, List.set_cons_succ]
    refine lat_two 3 7 rfl rfl (by kernel_rfl) (by decide) (by decide) (by rfl) (by rfl) (fun K hK => ?_) (fun K hK => ?_)
    · go_simp
      try dsimp only
      have hz1 : Below z.heap.size z (z.alloc (.cells #[.int .u8 (kn : Int)] 5)) := below_box _
      refine hK.out _ _ (HSB.out _ hz1) (fun hH1 => ?_)
      clear hK
      try simp only [Act.put, List.setIfInBounds_toArray, List.set_cons_zero, List.set_cons_succ]
      have ho1 := HONE.out z
      generalize z.alloc (.cells #[.int .u8 (kn : Int)] 5) = z1 at *
      refine lat_one 7 rfl (by kernel_rfl) (by decide) (by rfl) (fun K hK => ?_)
      go_simp
      refine Calls.mono (HLY.out z1) ?_
      rintro e w5 ⟨v2, rfl, ho2, hb2, _⟩
      obtain ⟨a2, c2, rfl, hr2, hn2⟩ := owns_sl ho2 (lt_mem (lay_byt 4 _))
      have hb5 : Below z.heap.size z w5 := hz1.trans (hb2.mono hz1.size)
      refine hK.out _ _ (HSB.out _ hb5) (fun hH2 => ?_)
      clear hK
      try simp only [Act.put, List.setIfInBounds_toArray, List.set_cons_zero, List.set_cons_succ]
      refine lat_one 8 rfl (by kernel_rfl) (by decide) (by rfl) (fun K hK => ?_)
      refine wp_append_row _ _ rfl z.heap.size z _ _ _ rfl (own_any ho1 hb2) hb5 hb5.size a2 c2 (lay 4 im) (by rw [HL4.out.2]; rfl) hr2 hn2 (by rw [HL4.out.2]; omega) ?_
      intro v6 w6 hown6 hb6
      rw [HL4.out.2] at hown6
      obtain ⟨a6, c6, rfl⟩ : ∃ a6 c6, v6 = .slice a6 5 c6 := by
        rcases hown6.2 with ⟨e, h0⟩ | ⟨g, cap, cur, e, _⟩
        · cases h0
        · exact ⟨_, _, e⟩
      refine hK.out _ _ (HSB.out _ hb6) (fun hH3 => ?_)
      clear hK
      try simp only [Act.put, List.setIfInBounds_toArray, List.set_cons_zero, List.set_cons_succ]
      refine lat_take 9 (v := ?_) rfl (by kernel_rfl) (by kernel_rfl) (by kernel_rfl) (by kernel_rfl) (fun _ _ _ h => h) (by rfl) ?_ (by assumption) ?_
      rotate_left
      · (intro y hSy; (try dsimp only at hSy); (try obtain ⟨q0, q1⟩ := hSy); go_simp <;> with_reducible rfl)
      try simp only [Act.put, List.setIfInBounds_toArray, List.set_cons_zero, List.set_cons_succ]
      refine lat_one 10 rfl (by kernel_rfl) (by decide) (by rfl) (fun K hK => ?_)
      go_simp
      try dsimp only
      refine hK.out _ _ (HSB.out _ (hb6.trans ((below_box _).mono hb6.size))) (fun hH4 => ?_)
      clear hK
      try simp only [Act.put, List.setIfInBounds_toArray, List.set_cons_zero, List.set_cons_succ]
      refine lat_last 11 rfl (by kernel_rfl) (by decide) (by kernel_rfl) (by rfl) (fun K hK => ?_)
      go_simp
      try dsimp only
      refine hK.out _ _ ?_
      clear hK
      try simp only [Act.put, List.setIfInBounds_toArray, List.set_cons_zero, List.set_cons_succ]
      have hQ6 := HP1.out w6 _ _ _ hb6 hown6 rfl
      go_wp2_with fail
      go_meet
      exact ⟨_, rfl, hQ6⟩
    · go_simp
      refine Calls.mono (HLY.out z) ?_
      rintro e w5 ⟨v2, rfl, ho2, hb5, _⟩
      obtain ⟨a2, c2, rfl, hr2, hn2⟩ := owns_sl ho2 (lt_mem (lay_byt 4 _))
      refine hK.out _ _ (HSB.out _ hb5) (fun hH1 => ?_)
      clear hK
      try simp only [Act.put, List.setIfInBounds_toArray, List.set_cons_zero, List.set_cons_succ]
      refine lat_one 3 rfl (by kernel_rfl) (by decide) (by rfl) (fun K hK => ?_)
      go_simp
      try dsimp only
      have hz1 : Below z.heap.size z (w5.alloc (.cells #[.int .u8 (kn : Int)] 5)) := hb5.trans ((below_box _).mono hb5.size)
      have hr3 := hr2.below (below_box (w := w5) (.cells #[.int .u8 (kn : Int)] 5))
      have ho1 := own_down (HONE.out w5) hb5.size
      refine hK.out _ _ (HSB.out _ hz1) (fun hH2 => ?_)
      clear hK
      try simp only [Act.put, List.setIfInBounds_toArray, List.set_cons_zero, List.set_cons_succ]
      generalize w5.alloc (.cells #[.int .u8 (kn : Int)] 5) = z1 at *
      refine lat_one 8 rfl (by kernel_rfl) (by decide) (by rfl) (fun K hK => ?_)
      refine wp_append_row _ _ rfl z.heap.size z _ _ _ rfl ho1 hz1 hz1.size a2 c2 (lay 4 im) (by rw [HL4.out.2]; rfl) hr3 hn2 (by rw [HL4.out.2]; omega) ?_
      intro v6 w6 hown6 hb6
      rw [HL4.out.2] at hown6
      obtain ⟨a6, c6, rfl⟩ : ∃ a6 c6, v6 = .slice a6 5 c6 := by
        rcases hown6.2 with ⟨e, h0⟩ | ⟨g, cap, cur, e, _⟩
        · cases h0
        · exact ⟨_, _, e⟩
      refine hK.out _ _ (HSB.out _ hb6) (fun hH3 => ?_)
      clear hK
      try simp only [Act.put, List.setIfInBounds_toArray, List.set_cons_zero, List.set_cons_succ]
      refine lat_take 9 (v := ?_) rfl (by kernel_rfl) (by kernel_rfl) (by kernel_rfl) (by kernel_rfl) (fun _ _ _ h => h) (by rfl) ?_ (by assumption) ?_
      rotate_left
      · (intro y hSy; (try dsimp only at hSy); (try obtain ⟨q0, q1⟩ := hSy); go_simp <;> with_reducible rfl)
      try simp only [Act.put, List.setIfInBounds_toArray, List.set_cons_zero, List.set_cons_succ]
      refine lat_one 10 rfl (by kernel_rfl) (by decide) (by rfl) (fun K hK => ?_)
      go_simp
      try dsimp only
      refine hK.out _ _ (HSB.out _ (hb6.trans ((below_box _).mono hb6.size))) (fun hH4 => ?_)
      clear hK
      try simp only [Act.put, List.setIfInBounds_toArray, List.set_cons_zero, List.set_cons_succ]
      refine lat_last 11 rfl (by kernel_rfl) (by decide) (by kernel_rfl) (by rfl) (fun K hK => ?_)
      go_simp
      try dsimp only
      refine hK.out _ _ ?_
      clear hK
      try simp only [Act.put, List.setIfInBounds_toArray, List.set_cons_zero, List.set_cons_succ]
      have hQ6 := HP1.out w6 _ _ _ hb6 hown6 rfl
      go_wp2_with fail
      go_meet
      exact ⟨_, rfl, hQ6⟩
  case rest =>
    obtain ⟨P, rfl, hQ⟩ := hcut
    have HQ0 : Hid (RPS w w1.heap.size w2.heap.size P (rsc (kn : Int) (im : Int) (0 : Int) b p) CSF CS0 none [] (some ([kn] ++ lay 4 im)) 5 wc) := hQ
    have H45 : Hid (w.heap.size < w2.heap.size) := by have := HS2.out; have := HB1.out.size; show _ < _; omega
    have HKD : Hid (0 < 256) := by show _ < _; omega
    clear hQ HX0 HBW HX1 HX2 HX3 HF4 HF43 HF53 HB2 HB3 HAN KA KB KC HF2 HM2 HZS HZ9 HKN tokG
    try clear c0 c1 c2 c3 c4 c5 c6 c7 c8
    -- the code's byte
    have HQD0 : Hid (RPS w w1.heap.size w2.heap.size P (rsc (kn : Int) (im : Int) (0 : Int) b p) CSF CS0 none [] (some ([kn] ++ lay 4 im)) 5 wc.drew) := RPS.below HQ0.out (below_drew _)
    obtain ⟨c0, c1, c2, c3, c4, c5, c6, c7, c8⟩ := HQC.out _ HQD0.out.h0
    obtain ⟨a1, v1, k1, d0, d1, f0, f1, hx1, ho1, hb1, hl1, hs1⟩ := HQD0.out.pen.open
    have HO1 : Hid (wc.drew.ownsRow w.heap.size 5 1 (.slice a1 v1.length k1) v1.length (cv v1)) := ho1
    have HX1 : Hid (wc.drew.heap[P]? = some (.cells #[.slice a1 v1.length k1, .bool (some ([kn] ++ lay 4 im) : Ls).isNone] 99 (0, 0))) := hx1
    have HS1 : Hid (∀ L, some ([kn] ++ lay 4 im) = some L → v1 = L) := hs1
    have HBT1 : Hid (Byt v1 ∧ v1.length ≤ 5) := ⟨hb1, hl1⟩
    have hS0 : wc.drew.cell? ⟨P, 0, none⟩ = some (.slice a1 v1.length k1) ∧ wc.drew.cell? ⟨w.heap.size, 2, none⟩ = some (.int .i64 (0 : Int)) := ⟨d0, c2⟩
    have HSB : Hid (∀ x, KeepT (x.heap.size + 7) wc.drew x → x.cell? ⟨P, 0, none⟩ = some (.slice a1 v1.length k1) ∧ x.cell? ⟨w.heap.size, 2, none⟩ = some (.int .i64 (0 : Int))) := fun x hx => by
      have ne : ∀ g o, wc.drew.heap[g]? = some o → g ≠ x.heap.size + 7 := fun g o hg => by have := (Array.getElem?_eq_some_iff.1 hg).1; have := hx.size; omega
      have q1 := KeepT.box hx HX1.out (ne _ _ HX1.out) (by decide)
      have q2 := KeepT.box hx HQD0.out.h0 (ne _ _ HQD0.out.h0) (by decide)
      exact ⟨(box_at q1 0).1, (box_at q2 2).1⟩
    clear hx1 ho1 hs1 hb1 hl1 d0 d1 f0 f1 c0 c1 c2 c3 c4 c5 c6 c7 c8
    go_wp2_with fail
    refine wp_region_lat (fun y : World => y.cell? ⟨P, 0, none⟩ = some (.slice a1 v1.length k1) ∧ y.cell? ⟨w.heap.size, 2, none⟩ = some (.int .i64 (0 : Int))) 12 (by kernel_rfl) hS0 (fun hHeld => ?_)
    generalize wc.drew = z at *
    refine lat_take 0 (v := ?_) rfl (by kernel_rfl) (by kernel_rfl) (by kernel_rfl) (by kernel_rfl) (fun _ _ _ h => h) (by rfl) ?_ (by assumption) ?_
    rotate_left
    · (intro y hSy; (try dsimp only at hSy); (try obtain ⟨q0, q1⟩ := hSy); go_simp <;> with_reducible rfl)
    try simp only [Act.put, List.setIfInBounds_toArray, List.set_cons_zero, List.set_cons_succ]
    refine lat_take 1 (v := ?_) rfl (by kernel_rfl) (by kernel_rfl) (by kernel_rfl) (by kernel_rfl) (fun _ _ _ h => h) (by rfl) ?_ (by assumption) ?_
    rotate_left
    · (intro y hSy; (try dsimp only at hSy); (try obtain ⟨q0, q1⟩ := hSy); go_simp <;> with_reducible rfl)
    try simp only [Act.put, List.setIfInBounds_toArray, List.set_cons_zero, List.set_cons_succ]
    refine lat_take 2 (v := ?_) rfl (by kernel_rfl) (by kernel_rfl) (by kernel_rfl) (by kernel_rfl) (fun _ _ _ h => h) (by rfl) ?_ (by assumption) ?_
    rotate_left
    · (intro y hSy; (try dsimp only at hSy); (try obtain ⟨q0, q1⟩ := hSy); go_simp <;> with_reducible rfl)
    try simp only [Act.put, List.setIfInBounds_toArray, List.set_cons_zero, List.set_cons_succ]
    refine lat_take 3 (v := ?_) rfl (by kernel_rfl) (by kernel_rfl) (by kernel_rfl) (by kernel_rfl) (fun _ _ _ h => h) (by rfl) ?_ (by assumption) ?_
    rotate_left
    · (intro y hSy; (try dsimp only at hSy); (try obtain ⟨q0, q1⟩ := hSy); go_simp <;> with_reducible rfl)
    try simp only [Act.put, List.setIfInBounds_toArray, List.set_cons_zero, List.set_cons_succ]
    refine lat_take 4 (v := ?_) rfl (by kernel_rfl) (by kernel_rfl) (by kernel_rfl) (by kernel_rfl) (fun _ _ _ h => h) (by rfl) ?_ (by assumption) ?_
    rotate_left
    · (intro y hSy; (try dsimp only at hSy); (try obtain ⟨q0, q1⟩ := hSy); go_simp <;> with_reducible rfl)
    try simp only [Act.put, List.setIfInBounds_toArray, List.set_cons_zero, List.set_cons_succ]
    refine lat_take 5 (v := ?_) rfl (by kernel_rfl) (by kernel_rfl) (by kernel_rfl) (by kernel_rfl) (fun _ _ _ h => h) (by rfl) ?_ (by assumption) ?_
    rotate_left
    · (intro y hSy; (try dsimp only at hSy); (try obtain ⟨q0, q1⟩ := hSy); go_simp <;> with_reducible rfl)
    try simp only [Act.put, List.setIfInBounds_toArray, List.set_cons_zero, List.set_cons_succ]
    refine lat_take 6 (v := ?_) rfl (by kernel_rfl) (by kernel_rfl) (by kernel_rfl) (by kernel_rfl) (fun _ _ _ h => h) (by rfl) ?_ (by assumption) ?_
    rotate_left
    · (intro y hSy; (try dsimp only at hSy); (try obtain ⟨q0, q1⟩ := hSy); go_simp <;> with_reducible rfl)
    try simp only [Act.put, List.setIfInBounds_toArray, List.set_cons_zero, List.set_cons_succ]
    refine lat_take 7 (v := ?_) rfl (by kernel_rfl) (by kernel_rfl) (by kernel_rfl) (by kernel_rfl) (fun _ _ _ h => h) (by rfl) ?_ (by assumption) ?_
    rotate_left
    · (intro y hSy; (try dsimp only at hSy); (try obtain ⟨q0, q1⟩ := hSy); go_simp <;> with_reducible rfl)
    try simp only [Act.put, List.setIfInBounds_toArray, List.set_cons_zero, List.set_cons_succ]
    refine lat_one 8 rfl (by kernel_rfl) (by decide) (by rfl) (fun K hK => ?_)
    go_simp
    try dsimp only
    refine hK.out _ _ (HSB.out _ (KeepT.of_below (below_box _))) (fun hH1 => ?_)
    clear hK
    try simp only [Act.put, List.setIfInBounds_toArray, List.set_cons_zero, List.set_cons_succ]
    have hr1 := (head_row z 0 HKD.out).1
    have ho2 := own_any HO1.out (below_box (w := z) (.cells #[.int .u8 (0 : Int)] 5))
    have hk1 : ∀ B', KeepT B' z (z.alloc (.cells #[.int .u8 (0 : Int)] 5)) := fun B' => KeepT.of_below (below_box _)
    have hb1 : Below w.heap.size w (z.alloc (.cells #[.int .u8 (0 : Int)] 5)) := HQD0.out.pen.bel.trans ((below_box _).mono HQD0.out.pen.bel.size)
    have hz1 : (z.alloc (.cells #[.int .u8 (0 : Int)] 5)).heap.size = z.heap.size + 1 := by simp
    generalize z.alloc (.cells #[.int .u8 (0 : Int)] 5) = z1 at *
    refine lat_one 9 rfl (by kernel_rfl) (by decide) (by rfl) (fun K hK => ?_)
    refine wp_append_rwK _ _ rfl w.heap.size _ v1 rfl ho2 hb1.size ⟨z.heap.size, 0, none⟩ 1 [0] rfl hr1 (by have := HBT1.out.2; simp only [List.length_cons, List.length_nil]; omega) ?_
    intro v6 w6 hown6 hg6
    obtain ⟨a6, c6, rfl⟩ := own_slice hown6
    have hk6 : ∀ B', KeepT B' z w6 := fun B' => (hk1 B').trans (KeepT.grown ho2 hg6)
    have hF := PnS.app (M := 6) HX1.out HBT1.out.1 HBT1.out.2 HS1.out HQD0.out.pen.low hown6 (hb1.grown hg6 hb1.size (fun k hk => (ho2.lt k hk).1)) hk6 (show Byt [0] from fun q hq => by simp at hq; have := HKD.out; omega) (by simp)
    obtain ⟨d0, d1, f0, f1⟩ := pen_cells (pen_box HX1.out hk6)
    refine hK.out _ _ (HSB.out _ (hk6 _)) (fun hH2 => ?_)
    clear hK
    have HQ6 : Hid (RPS w w1.heap.size w2.heap.size P (rsc (kn : Int) (im : Int) (0 : Int) b p) CSF CS0 none [] (some (([kn] ++ lay 4 im) ++ [0])) 6 (w6.setCell ⟨P, 0, none⟩ (.slice a6 (v1 ++ [0]).length c6))) := RPS.pens HQD0.out hF.2 hF.1
    have hla : (v1 ++ [0]).length = v1.length + 1 := by simp
    try simp only [Act.put, List.setIfInBounds_toArray, List.set_cons_zero, List.set_cons_succ]
    clear hF hk6 hown6 hg6 hr1 ho2 hk1 hb1 hz1
    refine lat_take 10 (v := ?_) rfl (by kernel_rfl) (by kernel_rfl) (by kernel_rfl) (by kernel_rfl) (fun _ _ _ h => h) (by rfl) ?_ (by assumption) ?_
    rotate_left
    · (intro y hSy; (try dsimp only at hSy); (try obtain ⟨q0, q1⟩ := hSy); go_simp <;> with_reducible rfl)
    try simp only [Act.put, List.setIfInBounds_toArray, List.set_cons_zero, List.set_cons_succ]
    refine lat_take 11 (v := ?_) rfl (by kernel_rfl) (by kernel_rfl) (by kernel_rfl) (by kernel_rfl) (fun _ _ _ h => h) (by rfl) ?_ (by assumption) ?_
    rotate_left
    · (intro y hSy; (try dsimp only at hSy); (try obtain ⟨q0, q1⟩ := hSy); go_simp <;> with_reducible rfl)
    try simp only [Act.put, List.setIfInBounds_toArray, List.set_cons_zero, List.set_cons_succ]
    refine lat_last 12 rfl (by kernel_rfl) (by decide) (by kernel_rfl) (by rfl) (fun K hK => ?_)
    go_simp
    try dsimp only
    refine hK.out _ _ ?_
    clear hK d0 d1 f0 f1
    try simp only [Act.put, List.setIfInBounds_toArray, List.set_cons_zero, List.set_cons_succ]
    rw [hla] at HQ6
    try rw [hla]
    clear hla
    generalize w6.setCell ⟨P, 0, none⟩ (.slice a6 (v1.length + 1) c6) = w7 at *
    obtain ⟨c0, c1, c2, c3, c4, c5, c6, c7, c8⟩ := HQC.out _ HQ6.out.h0
    go_wp2_with (go_at_call 23; refine (HRW.out _).mono ?_; rintro e w8 ⟨⟨ga, gc, rfl, hw⟩, hb9⟩; have HWB : Hid (WBox w8 ga r) := hw; have HQ8 : Hid (RPS w w1.heap.size w2.heap.size P (rsc (kn : Int) (im : Int) (0 : Int) b p) CSF CS0 none [] (some (([kn] ++ lay 4 im) ++ [0])) 6 w8) := RPS.below HQ6.out hb9; clear c0 c1 c2 c3 c4 c5 c6 c7 c8; obtain ⟨c0, c1, c2, c3, c4, c5, c6, c7, c8⟩ := HQC.out _ HQ8.out.h0; clear hw hb9)
    have HQ9s : Hid (RPS w w1.heap.size w2.heap.size P (rsc (kn : Int) (im : Int) (0 : Int) b p) CSF (rsm (kn : Int) (im : Int) (0 : Int) b p (r.take 0)) ga r (st 0) (6 + 0 * 10400000) w8) := by
      have e0 : st 0 = some (([kn] ++ lay 4 im) ++ [0]) := by rw [HST.out 0]; simp [eFs, oa_nil]
      rw [e0, ← HG0.out]
      exact ⟨HQ8.out.h0, HQ8.out.h4, HQ8.out.h5, HWB.out, HQ8.out.pen⟩
    clear HQ0 HQ6 HQ8 HWB HQD0 HX1 HO1 HS1 HBT1 HSB c0 c1 c2 c3 c4 c5 c6 c7 c8 g7
    go_loopw [8] (fun iv wr => ∃ jj : Nat, jj ≤ r.length ∧ iv = .int .i64 jj ∧ RPS w w1.heap.size w2.heap.size P (rsc (kn : Int) (im : Int) (0 : Int) b p) CSF (rsm (kn : Int) (im : Int) (0 : Int) b p (r.take jj)) ga r (st jj) (6 + jj * 10400000) wr) (fun iv _ => r.length - (iof iv).toNat)
    case atStart => exact ⟨0, by omega, rfl, HQ9s.out⟩
    case round =>
      obtain ⟨jj, hjj, rfl, hQ⟩ := hrel
      have HQ : Hid (RPS w w1.heap.size w2.heap.size P (rsc (kn : Int) (im : Int) (0 : Int) b p) CSF (rsm (kn : Int) (im : Int) (0 : Int) b p (r.take jj)) ga r (st jj) (6 + jj * 10400000) wr) := hQ
      clear hQ HQ9s
      have hl7 := HLEN.out
      by_cases hlt : jj < r.length
      · have hltI : (jj : Int) < (r.length : Int) := by omega
        obtain ⟨f, HFE⟩ : ∃ f, Hid (r.getD jj 0 = f) := ⟨_, rfl⟩
        have hfm : f ∈ r := by rw [← HFE.out, List.getD_eq_getElem?_getD, List.getElem?_eq_getElem hlt]; exact List.getElem_mem hlt
        have HF6 : Hid (f = 12 ∨ f = 15 ∨ f = 16 ∨ f = 17 ∨ f = 18 ∨ f = 19) := HIN.out f hfm
        have HTK : Hid (r.take (jj + 1) = r.take jj ++ [f]) := by
          show _ = _
          rw [List.take_succ_eq_append_getElem hlt, ← HFE.out, List.getD_eq_getElem?_getD, List.getElem?_eq_getElem hlt]
          rfl
        have HSN : Hid (st (jj + 1) = oa (st jj) (eK (kd f) (b f))) := by
          show _ = _
          rw [HST.out, HST.out, HTK.out, eFs_snoc, oa_assoc]
        obtain ⟨g, gcs, rfl, hgb, hgc⟩ : ∃ g cs, ga = some ⟨g, 0, none⟩ ∧ wr.heap[g]? = some (.cells cs 78 (0, 0)) ∧ ∀ j, j < r.length → cs[j * 2]? = some (.int .i64 (wh (r.getD j 0))) ∧ cs[j * 2 + 1]? = some (.int .i64 ((r.getD j 0 : Nat) : Int)) := by
          rcases HQ.out.hr with e | q
          · rw [e] at hlt; cases hlt
          · exact q
        obtain ⟨hc1, hc2⟩ := hgc jj hlt
        rw [HFE.out] at hc1 hc2
        have HGB : Hid (∀ x : World, x.heap[g]? = some (.cells gcs 78 (0, 0)) → x.cell? ⟨g, jj * 2, none⟩ = some (.int .i64 (wh f)) ∧ x.cell? ⟨g, jj * 2 + 1, none⟩ = some (.int .i64 (f : Int))) := fun x hx => ⟨by rw [(box_at hx _).1]; exact hc1, by rw [(box_at hx _).1]; exact hc2⟩
        have HGW : Hid (wr.heap[g]? = some (.cells gcs 78 (0, 0))) := hgb
        clear hc1 hc2 hgc hgb
        have HQD : Hid (RPS w w1.heap.size w2.heap.size P (rsc (kn : Int) (im : Int) (0 : Int) b p) CSF (rsm (kn : Int) (im : Int) (0 : Int) b p (r.take jj)) (some ⟨g, 0, none⟩) r (st jj) (6 + jj * 10400000) wr.drew) := RPS.below HQ.out (below_drew _)
        have HCL : Hid (Calls Tryz.prog 36 #[(.pointer (some ⟨P, 0, none⟩)), .agg #[.int .i64 (wh f), .int .i64 (f : Int)], .agg CSF] wr.drew (PP w P wr.drew (oa (st jj) (eK (kd f) (b f))) (6 + jj * 10400000 + 10400000))) := HFD.out _ P _ _ f hfm (by omega) HQD.out.pen
        have HKG : Hid (∀ x, KeepT P wr.drew x → x.heap[g]? = some (.cells gcs 78 (0, 0))) := fun x hx => by
          obtain ⟨v0, l0, hx0, _⟩ := HQD.out.pen.ex
          refine KeepT.box hx (show wr.drew.heap[g]? = _ from HGW.out) ?_ (by decide)
          rintro rfl
          rw [show wr.drew.heap[g]? = _ from HGW.out] at hx0
          injection hx0 with hx0
          injection hx0 with _ hx0 _
          exact absurd hx0 (by decide)
        obtain ⟨d0, d1⟩ := HGB.out wr.drew HGW.out
        have hS1 : (wr.drew.cell? ⟨g, jj * 2, none⟩ = some (.int .i64 (wh f)) ∧ wr.drew.cell? ⟨g, jj * 2 + 1, none⟩ = some (.int .i64 (f : Int))) ∧ wr.drew.heap[w1.heap.size]? = some (.cells CSF 73 (0, 0)) := ⟨⟨d0, d1⟩, HQD.out.h4⟩
        clear d0 d1 hfm
        go_wp2_with fail
        refine wp_region_lat (fun y : World => (y.cell? ⟨g, jj * 2, none⟩ = some (.int .i64 (wh f)) ∧ y.cell? ⟨g, jj * 2 + 1, none⟩ = some (.int .i64 (f : Int))) ∧ y.heap[w1.heap.size]? = some (.cells CSF 73 (0, 0))) 6 (by kernel_rfl) hS1 (fun hHeld => ?_)
        refine lat_take 0 (v := ?_) rfl (by kernel_rfl) (by kernel_rfl) (by kernel_rfl) (by kernel_rfl) (fun _ _ _ h => h) (by rfl) ?_ (by assumption) ?_
        rotate_left
        · (intro y hSy; (try dsimp only at hSy); (try obtain ⟨⟨q0, q1⟩, q2⟩ := hSy); go_simp <;> with_reducible rfl)
        try simp only [Act.put, List.setIfInBounds_toArray, List.set_cons_zero, List.set_cons_succ]
        refine lat_take 1 (v := ?_) rfl (by kernel_rfl) (by kernel_rfl) (by kernel_rfl) (by kernel_rfl) (fun _ _ _ h => h) (by rfl) ?_ (by assumption) ?_
        rotate_left
        · (intro y hSy; (try dsimp only at hSy); (try obtain ⟨⟨q0, q1⟩, q2⟩ := hSy); go_simp <;> with_reducible rfl)
        try simp only [Act.put, List.setIfInBounds_toArray, List.set_cons_zero, List.set_cons_succ]
        refine lat_take 2 (v := ?_) rfl (by kernel_rfl) (by kernel_rfl) (by kernel_rfl) (by kernel_rfl) (fun _ _ _ h => h) (by rfl) ?_ (by assumption) ?_
        rotate_left
        · (intro y hSy; (try dsimp only at hSy); (try obtain ⟨⟨q0, q1⟩, q2⟩ := hSy); go_simp <;> with_reducible rfl)
        try simp only [Act.put, List.setIfInBounds_toArray, List.set_cons_zero, List.set_cons_succ]
        refine lat_take 3 (v := ?_) rfl (by kernel_rfl) (by kernel_rfl) (by kernel_rfl) (by kernel_rfl) (fun _ _ _ h => h) (by rfl) ?_ (by assumption) ?_
        rotate_left
        · (intro y hSy; (try dsimp only at hSy); (try obtain ⟨⟨q0, q1⟩, q2⟩ := hSy); go_simp <;> with_reducible rfl)
        try simp only [Act.put, List.setIfInBounds_toArray, List.set_cons_zero, List.set_cons_succ]
        refine lat_take 4 (v := ?_) rfl (by kernel_rfl) (by kernel_rfl) (by kernel_rfl) (by kernel_rfl) (fun _ _ _ h => h) (by rfl) ?_ (by assumption) ?_
        rotate_left
        · (intro y hSy; (try dsimp only at hSy); (try obtain ⟨⟨q0, q1⟩, q2⟩ := hSy); go_simp <;> with_reducible rfl)
        try simp only [Act.put, List.setIfInBounds_toArray, List.set_cons_zero, List.set_cons_succ]
        refine lat_box 5 rfl (by kernel_rfl) (by kernel_rfl) (by kernel_rfl) (by kernel_rfl) 73 _ rfl w1.heap.size CSF (fun _ _ _ h => h) (by rfl) rfl 73 _ (fun y hy => hy.2) Tryz.underlying73 rfl (by rw [HF1.out]; exact Tryz.info73) (by assumption) ?_
        try simp only [Act.put, List.setIfInBounds_toArray, List.set_cons_zero, List.set_cons_succ]
        refine lat_last 6 rfl (by kernel_rfl) (by decide) (by kernel_rfl) (by rfl) (fun K hK => ?_)
        go_simp
        refine Calls.mono HCL.out ?_
        rintro e x1 ⟨rfl, hp1, hk1⟩
        have HQ1 : Hid (RPS w w1.heap.size w2.heap.size P (rsc (kn : Int) (im : Int) (0 : Int) b p) CSF (rsm (kn : Int) (im : Int) (0 : Int) b p (r.take jj)) (some ⟨g, 0, none⟩) r (st (jj + 1)) (6 + (jj + 1) * 10400000) x1) := RPS.pens HQD.out hk1 (by rw [HSN.out]; exact hp1.mono (by omega))
        have HG1 : Hid (x1.heap[g]? = some (.cells gcs 78 (0, 0))) := HKG.out x1 hk1
        try dsimp only
        refine hK.out _ _ ?_
        clear hK hp1 hk1
        try simp only [Act.put, List.setIfInBounds_toArray, List.set_cons_zero, List.set_cons_succ]
        obtain ⟨d0, d1⟩ := HGB.out x1 HG1.out
        obtain ⟨c0, c1, c2, c3, c4, c5, c6, c7, c8⟩ := HQC.out _ HQ1.out.h0
        have HE5 : Hid (∀ j, j < 9 → (∃ u, x1.cell? ⟨w2.heap.size, j, none⟩ = some u) ∧ x1.frozen? ⟨w2.heap.size, j, none⟩ = false) := fun j hj => ⟨⟨_, by rw [(box_at HQ1.out.h5 j).1]; exact Array.getElem?_eq_getElem (show j < 9 from hj)⟩, (box_at HQ1.out.h5 j).2⟩
        rcases HF6.out with rfl | rfl | rfl | rfl | rfl | rfl
        · obtain ⟨⟨u5, e5⟩, f5⟩ := HE5.out 3 (by decide)
          have HQE : Hid _ := RPS.put HQ1.out H45.out 3 (.int .i64 (b 12).n)
          clear HE5
          go_wp2_with fail
          exact ⟨⟨jj + 1, by omega, by go_num, by rw [HTK.out, ← rsm_12]; exact HQE.out⟩, by simp [iof]; omega⟩
        · obtain ⟨⟨u5, e5⟩, f5⟩ := HE5.out 4 (by decide)
          have HQE : Hid _ := RPS.put HQ1.out H45.out 4 (.int .i64 (b 15).n)
          clear HE5
          go_wp2_with fail
          exact ⟨⟨jj + 1, by omega, by go_num, by rw [HTK.out, ← rsm_15]; exact HQE.out⟩, by simp [iof]; omega⟩
        · obtain ⟨⟨u5, e5⟩, f5⟩ := HE5.out 5 (by decide)
          have HQE : Hid _ := RPS.put HQ1.out H45.out 5 (.int .i64 (b 16).n)
          clear HE5
          go_wp2_with fail
          exact ⟨⟨jj + 1, by omega, by go_num, by rw [HTK.out, ← rsm_16]; exact HQE.out⟩, by simp [iof]; omega⟩
        · obtain ⟨⟨u5, e5⟩, f5⟩ := HE5.out 6 (by decide)
          have HQE : Hid _ := RPS.put HQ1.out H45.out 6 (.slice p.na (b 17).nm.length p.nc)
          clear HE5
          go_wp2_with fail
          exact ⟨⟨jj + 1, by omega, by go_num, by rw [HTK.out, ← rsm_17]; exact HQE.out⟩, by simp [iof]; omega⟩
        · obtain ⟨⟨u5, e5⟩, f5⟩ := HE5.out 7 (by decide)
          have HQE : Hid _ := RPS.put HQ1.out H45.out 7 (.slice p.ca (b 18).ct.length p.cc)
          clear HE5
          go_wp2_with fail
          exact ⟨⟨jj + 1, by omega, by go_num, by rw [HTK.out, ← rsm_18]; exact HQE.out⟩, by simp [iof]; omega⟩
        · obtain ⟨⟨u5, e5⟩, f5⟩ := HE5.out 8 (by decide)
          have HQE : Hid _ := RPS.put HQ1.out H45.out 8 (.slice p.ba p.bs.length p.bc)
          clear HE5
          go_wp2_with fail
          exact ⟨⟨jj + 1, by omega, by go_num, by rw [HTK.out, ← rsm_19]; exact HQE.out⟩, by simp [iof]; omega⟩
      · obtain rfl : jj = r.length := by omega
        rw [List.take_length] at HQ
        obtain ⟨SL, HSL⟩ : ∃ SL, Hid (st r.length = SL) := ⟨_, rfl⟩
        rw [HSL.out] at HQ HSX
        obtain ⟨a3, l3, c3, p0, p1, e0, e1, hx3, ho3, hbt3, hl3, hs3⟩ := HQ.out.pen.open
        have HBD : Hid (Below w.heap.size w wr) := HQ.out.pen.bel
        have HL3 : Hid (l3.length ≤ 100000000) := by show _ ≤ _; omega
        have HX3 : Hid (wr.heap[P]? = some (.cells #[.slice a3 l3.length c3, .bool SL.isNone] 99 (0, 0))) := hx3
        have HP3 : Hid (wr.ownsRow w.heap.size 5 1 (.slice a3 l3.length c3) l3.length (cv l3) ∧ Byt l3 ∧ ∀ L', SL = some L' → l3 = L') := ⟨ho3, hbt3, hs3⟩
        have HR9 : Hid ((rsm (kn : Int) (im : Int) (0 : Int) b p r).size = 9) := (rsm_one ..).1
        clear hx3 ho3 hbt3 hs3
        cases SL with
        | none =>
          simp only [Option.isNone_none] at p1
          have hsx : SX = none := by rw [HSX.out]; split <;> rfl
          subst hsx
          go_wp2_with fail
          go_ret2
          exact encP_no HBD.out
        | some L =>
          simp only [Option.isNone_some] at p1
          have tokX : True := trivial
          go_wp2_with (first
            | (have _h := tokX; refine load_row_g (by rfl) 38 _ rfl w2.heap.size rfl 38 (rsm (kn : Int) (im : Int) (0 : Int) b p r) (0, 0) _ (by exact HQ.out.h5) Tryz.underlying38 rfl (by rw [HR9.out]; exact Tryz.info38) ?_; clear _h tokX; have tokY : True := trivial; simp only [Act.put, List.setIfInBounds_toArray, List.set_cons_zero, List.set_cons_succ])
            | (have _h := tokY; refine load_row_g (by rfl) 38 _ rfl w.heap.size rfl 38 (rsc (kn : Int) (im : Int) (0 : Int) b p) (0, 0) _ (by exact HQ.out.h0) Tryz.underlying38 rfl (by rw [HQ9.out]; exact Tryz.info38) ?_; clear _h tokY; simp only [Act.put, List.setIfInBounds_toArray, List.set_cons_zero, List.set_cons_succ])
            | (go_at_call 11; refine (HSM.out _ HBD.out).mono ?_; rintro e x2 ⟨rfl, hu2⟩; have HU2 : Hid (Below wr.heap.size wr x2) := hu2; clear hu2 p0 p1 e0 e1; obtain ⟨p0, p1, e0, e1⟩ := pen_cells (box_keep' HX3.out HU2.out); cases R))
          · go_ret2
            rw [show SX = none by rw [HSX.out]; simp]
            exact encP_no (HBD.out.trans (HU2.out.mono HBD.out.size))
          · go_ret2
            have e3 : l3 = L := HP3.out.2.2 L rfl
            subst e3
            rw [show SX = some l3 by rw [HSX.out]; simp]
            exact encP_yes (own_any HP3.out.1 HU2.out) HP3.out.2.1 (Nat.le_trans HL3.out (by decide)) (HBD.out.trans (HU2.out.mono HBD.out.size))
set_option maxHeartbeats 4000000 in
set_option maxRecDepth 100000 in
theorem rs_yes1 (kn im dn : Nat) (b : Bd) (p : Pt) (w : World) (hv : VB b) (hz : ∀ f, f ≤ 14 → f ≠ 12 → b f = fz) (ht : Tab w) (hr : SRows w b p) (l1 : (b 17).nm.length ≤ 300) (l2 : (b 18).ct.length ≤ 300) (l3 : (b 19).bs.length ≤ 300) (ln : ∀ s, s ∈ (b 17).nm → s.size ≤ 30000) (hk8 : kn ≤ 8) (him : im ≤ 4294967295) (hd8 : dn ≤ 255) (hd0 : ¬ (dn : Int) = 0) (st : Nat → Ls) (hst : ∀ j, st j = oa (some (([kn] ++ lay 4 im) ++ [dn])) (eFs b (([] : List Nat).take j))) (R : Bool) (hR : (!(moreB b ([] : List Nat))) = R) (SX : Ls) (HSX : Hid (SX = if R = true then st ([] : List Nat).length else none)) :
    Calls Tryz.prog 14 #[.agg (rsc (kn : Int) (im : Int) (dn : Int) b p)] w (EncP SX w) := by
  have g1 : ¬ (kn : Int) < 0 := by omega
  have g2 : ¬ (kn : Int) > 8 := by omega
  have g3 : ¬ (im : Int) < 0 := by omega
  have g4 : ¬ (im : Int) > 4294967295 := by omega
  have g5 : ¬ (dn : Int) < 0 := by omega
  have g6 : ¬ (dn : Int) > 255 := by omega
  have g7 : IntKind.u8.wrap (dn : Int) = (dn : Int) := by rw [IntKind.wrap_u8]; omega
  have g8 : ((dn : Int) != 0) = true := by simpa using hd0
  have KA : Hid (∀ x : World, (Instr.alloc 73 true (.tuple #[])).run Tryz.prog x = .ok (.pointer (some ⟨x.heap.size, 0, none⟩)) (x.alloc (.cells zbg 73))) := run_alloc73
  have KC : Hid (∀ x : World, (Instr.alloc 38 true (.tuple #[])).run Tryz.prog x = .ok (.pointer (some ⟨x.heap.size, 0, none⟩)) (x.alloc (.cells z40 38))) := run_alloc38
  have KB : Hid (∀ x : World, (Instr.build 38 #[(0, .int .i64 (kn : Int)), (1, .int .i64 (im : Int)), (2, .int .i64 (dn : Int))]).run Tryz.prog x = .ok (.agg (rsm (kn : Int) (im : Int) (dn : Int) b p [])) x) := run_build38 (kn : Int) (im : Int) (dn : Int) b p
  have HAN : Hid (∀ x, Calls Tryz.prog 34 #[.agg (rsc (kn : Int) (im : Int) (dn : Int) b p)] x fun e w' => e = .returned (.agg (gba (kn : Int) (im : Int) b p)) ∧ Below x.heap.size x w') := fun x => answer_any (kn : Int) (im : Int) (dn : Int) b p hv hz x
  have HRW : Hid (∀ x, Calls Tryz.prog 23 #[.int .i64 (kn : Int), .bool true] x (RwP (rowOr (rowA (kn : Int))) x)) := fun x => by
    have q := rowsA_any (kn : Int) (by omega) (by omega) x
    skip
    exact q
  have HF1 : Hid ((gba (kn : Int) (im : Int) b p).size = 29) := gbc_size _ _ _ _ _ _ _ _ _
  have HF2 : Hid ((gba (kn : Int) (im : Int) b p).all (·.oneCell') = true) := gbc_one _ _ _ _ _ _ _ _ _ _ _ _ _ _ _ _ _
  have HZS : Hid (zbg.size = 29) := gbc_size _ _ _ _ _ _ _ _ _
  have HM1 : Hid ((rsm (kn : Int) (im : Int) (dn : Int) b p []).size = 9) := (rsm_one ..).1
  have HM2 : Hid ((rsm (kn : Int) (im : Int) (dn : Int) b p []).all (·.oneCell') = true) := (rsm_one ..).2
  have HZ9 : Hid (z40.size = 9) := rfl
  have HQC : Hid (∀ x : World, x.heap[w.heap.size]? = some (.cells (rsc (kn : Int) (im : Int) (dn : Int) b p) 38 (0, 0)) → x.cell? ⟨w.heap.size, 0, none⟩ = some (.int .i64 (kn : Int)) ∧ x.cell? ⟨w.heap.size, 1, none⟩ = some (.int .i64 (im : Int)) ∧ x.cell? ⟨w.heap.size, 2, none⟩ = some (.int .i64 (dn : Int)) ∧ x.cell? ⟨w.heap.size, 3, none⟩ = some (.int .i64 (b 12).n) ∧ x.cell? ⟨w.heap.size, 4, none⟩ = some (.int .i64 (b 15).n) ∧ x.cell? ⟨w.heap.size, 5, none⟩ = some (.int .i64 (b 16).n) ∧ x.cell? ⟨w.heap.size, 6, none⟩ = some (.slice p.na (b 17).nm.length p.nc) ∧ x.cell? ⟨w.heap.size, 7, none⟩ = some (.slice p.ca (b 18).ct.length p.cc) ∧ x.cell? ⟨w.heap.size, 8, none⟩ = some (.slice p.ba p.bs.length p.bc)) := fun x hx => rsx_box hx
  have HX0 : Hid ((w.alloc (.cells (rsc (kn : Int) (im : Int) (dn : Int) b p) 38)).heap[w.heap.size]? = some (.cells (rsc (kn : Int) (im : Int) (dn : Int) b p) 38 (0, 0))) := heap_alloc_new w _
  have HBW : Hid (Below w.heap.size w (w.alloc (.cells (rsc (kn : Int) (im : Int) (dn : Int) b p) 38))) := below_box _
  have HQ9 : Hid ((rsc (kn : Int) (im : Int) (dn : Int) b p).size = 9) := rfl
  obtain ⟨c0, c1, c2, c3, c4, c5, c6, c7, c8⟩ := HQC.out _ HX0.out
  have HSM : Hid (∀ y, Below w.heap.size w y → Calls Tryz.prog 11 #[.agg (rsm (kn : Int) (im : Int) (dn : Int) b p ([] : List Nat)), .agg (rsc (kn : Int) (im : Int) (dn : Int) b p)] y fun e w' => e = .returned (.bool R) ∧ Below y.heap.size y w') := fun y hy => by
    have q := sameX_any (kn : Int) (im : Int) (dn : Int) b p ([] : List Nat) y (hr.below hy) hv hz l1 l2 l3
    rw [hR] at q
    exact q
  have HG0 : Hid ((rsm (kn : Int) (im : Int) (dn : Int) b p []) = (rsm (kn : Int) (im : Int) (dn : Int) b p (([] : List Nat).take 0))) := by show _ = _; rw [List.take_zero]
  have hk8w : IntKind.u8.wrap (kn : Int) = (kn : Int) := by rw [IntKind.wrap_u8]; omega
  have hi64 : IntKind.u64.wrap (im : Int) = (im : Int) := by rw [IntKind.wrap_u64]; omega
  have HKN : Hid (kn < 256 ∧ im ≤ 18446744073709551615) := ⟨by omega, by omega⟩
  have HST : Hid (∀ j, st j = oa (some (([kn] ++ lay 4 im) ++ [dn])) (eFs b (([] : List Nat).take j))) := hst
  clear hr hv hz ht l1 l2 l3 ln hst hR hk8 him
  skip
  have tokA : True := trivial
  generalize (gba (kn : Int) (im : Int) b p) = CSF at *
  generalize zbg = ZB at *
  generalize z40 = ZR at *
  generalize hg0 : (rsm (kn : Int) (im : Int) (dn : Int) b p []) = CS0 at *
  clear hg0
  go_enter Tryz.func14, Tryz.ntmps14
  go_upto_region 5 with (first
    | (have _h := tokA; refine wpList_load_row rfl 38 _ rfl w.heap.size rfl 38 (rsc (kn : Int) (im : Int) (dn : Int) b p) (0, 0) _ (by exact HX0.out) Tryz.underlying38 rfl (by rw [HQ9.out]; exact Tryz.info38) ?_; clear _h tokA)
    | (go_at_call 34; refine (HAN.out _).mono ?_; rintro e w1 ⟨rfl, hb9⟩; have HX1 : Hid (w1.heap[w.heap.size]? = some (.cells (rsc (kn : Int) (im : Int) (dn : Int) b p) 38 (0, 0))) := box_keep' HX0.out hb9; have HB1 : Hid (Below w.heap.size w w1) := HBW.out.trans (hb9.mono HBW.out.size); clear hb9 c0 c1 c2 c3 c4 c5 c6 c7 c8; have tokB : True := trivial)
    | (have _h := tokB; refine wpList_allocZ KA.out rfl rfl w1.heap.size (by rfl) ?_; clear _h tokB; have tokC : True := trivial; simp only [Act.put, List.setIfInBounds_toArray, List.set_cons_zero, List.set_cons_succ])
    | (have _h := tokC; refine wpList_store_row rfl 73 _ _ rfl w1.heap.size CSF rfl rfl 73 ZB (by exact heap_alloc_new w1 _) (by rw [HF1.out]; exact Tryz.info73) (by rw [HF1.out]; exact HZS.out) HF2.out ?_; obtain ⟨hx9, hb9⟩ := box_new w1 ZB CSF 73; generalize World.setRow _ w1.heap.size CSF = w2 at *; have HX2 : Hid (w2.heap[w.heap.size]? = some (.cells (rsc (kn : Int) (im : Int) (dn : Int) b p) 38 (0, 0))) := box_keep' HX1.out hb9; have HF4 : Hid (w2.heap[w1.heap.size]? = some (.cells CSF 73 (0, 0))) := hx9; have HB2 : Hid (Below w.heap.size w w2) := HB1.out.trans (hb9.mono HB1.out.size); have HS2 : Hid (w1.heap.size < w2.heap.size) := (Array.getElem?_eq_some_iff.1 hx9).1; obtain ⟨c0, c1, c2, c3, c4, c5, c6, c7, c8⟩ := HQC.out _ HX2.out; clear hx9 hb9; clear _h tokC; have tokD : True := trivial)
    | (have _h := tokD; refine wpList_buildZ (parts := #[(0, .tmp 50), (1, .tmp 52), (2, .tmp 54)]) KB.out rfl rfl (by rfl) ?_; clear _h tokD; have tokE : True := trivial; simp only [Act.put, List.setIfInBounds_toArray, List.set_cons_zero, List.set_cons_succ])
    | (have _h := tokE; refine wpList_allocZ KC.out rfl rfl w2.heap.size (by rfl) ?_; clear _h tokE; have tokF : True := trivial; simp only [Act.put, List.setIfInBounds_toArray, List.set_cons_zero, List.set_cons_succ])
    | (have _h := tokF; refine wpList_store_row rfl 38 _ _ rfl w2.heap.size CS0 rfl rfl 38 ZR (by exact heap_alloc_new w2 _) (by rw [HM1.out]; exact Tryz.info38) (by rw [HM1.out]; exact HZ9.out) HM2.out ?_; obtain ⟨hx9, hb9⟩ := box_new w2 ZR CS0 38; generalize World.setRow _ w2.heap.size CS0 = w3 at *; have HX3 : Hid (w3.heap[w.heap.size]? = some (.cells (rsc (kn : Int) (im : Int) (dn : Int) b p) 38 (0, 0))) := box_keep' HX2.out hb9; have HF43 : Hid (w3.heap[w1.heap.size]? = some (.cells CSF 73 (0, 0))) := box_keep' HF4.out hb9; have HF53 : Hid (w3.heap[w2.heap.size]? = some (.cells CS0 38 (0, 0))) := hx9; have HB3 : Hid (Below w.heap.size w w3) := HB2.out.trans (hb9.mono HB2.out.size); clear c0 c1 c2 c3 c4 c5 c6 c7 c8; obtain ⟨c0, c1, c2, c3, c4, c5, c6, c7, c8⟩ := HQC.out _ HX3.out; clear hx9 hb9; clear _h tokF; have tokG : True := trivial))
  try simp only [Act.put, List.setIfInBounds_toArray, List.set_cons_zero, List.set_cons_succ]
  go_cut [6] from 56 to 66 (fun s6 wc => ∃ P, s6 = .pointer (some ⟨P, 0, none⟩) ∧ RPS w w1.heap.size w2.heap.size P (rsc (kn : Int) (im : Int) (dn : Int) b p) CSF CS0 none [] (some ([kn] ++ lay 4 im)) 5 wc)
  case first =>
    clear tokG c2 c3 c4 c5 c6 c7 c8
    have HP1 : Hid (∀ x v3 l3 c3, Below w3.drew.heap.size w3.drew x → x.ownsRow w3.drew.heap.size 5 1 (.slice v3 l3 c3) 5 (cv ([kn] ++ lay 4 im)) → l3 = 5 → RPS w w1.heap.size w2.heap.size x.heap.size (rsc (kn : Int) (im : Int) (dn : Int) b p) CSF CS0 none [] (some ([kn] ++ lay 4 im)) 5 (x.alloc (.cells #[.slice v3 l3 c3, .bool false] 99))) := fun x v3 l3 c3 hx ho e3 => by
      subst e3
      have bx : Below w3.heap.size w3 x := (below_drew w3).trans hx
      have b2 : Below w3.heap.size w3 (x.alloc (.cells #[.slice v3 5 c3, .bool false] 99)) := bx.trans ((below_box _).mono bx.size)
      have hby : Byt ([kn] ++ lay 4 im) := Byt.app (fun q hq => by simp at hq; have := HKN.out.1; omega) (lay_byt 4 _)
      refine ⟨box_keep' HX3.out b2, box_keep' HF43.out b2, box_keep' HF53.out b2, .inl rfl, ⟨⟨_, [kn] ++ lay 4 im, heap_alloc_new x _, ?_, hby, by simp [lay_len], fun L e => by injection e⟩, HB3.out.trans (b2.mono HB3.out.size), Nat.le_trans HB3.out.size bx.size⟩⟩
      have h5 : ([kn] ++ lay 4 im).length = 5 := by simp [lay_len]
      rw [h5]
      exact own_down (own_any ho (below_box _)) HB3.out.size
    have hS0 : w3.drew.cell? ⟨w.heap.size, 0, none⟩ = some (.int .i64 (kn : Int)) ∧ w3.drew.cell? ⟨w.heap.size, 1, none⟩ = some (.int .i64 (im : Int)) := ⟨c0, c1⟩
    have HSB : Hid (∀ x, Below w3.drew.heap.size w3.drew x → x.cell? ⟨w.heap.size, 0, none⟩ = some (.int .i64 (kn : Int)) ∧ x.cell? ⟨w.heap.size, 1, none⟩ = some (.int .i64 (im : Int))) := fun x hx => ⟨(HQC.out x (box_keep' HX3.out ((below_drew w3).trans hx))).1, (HQC.out x (box_keep' HX3.out ((below_drew w3).trans hx))).2.1⟩
    have HONE : Hid (∀ x : World, (x.alloc (.cells #[.int .u8 (kn : Int)] 5)).ownsRow x.heap.size 5 1 (.slice (some ⟨x.heap.size, 0, none⟩) 1 1) 1 (cv [kn])) := fun x => ⟨rfl, .inr ⟨x.heap.size, 1, _, rfl, Nat.le_refl _, heap_alloc_new x _, Nat.le_refl _, by unfold maxLen; omega, rfl, rfl⟩⟩
    have HNIL : Hid (∀ (x : World) B, x.ownsRow B 5 1 (.slice none 0 0) ([] : List Nat).length (cv [])) := fun x B => ⟨rfl, .inl ⟨rfl, rfl⟩⟩
    have hlay : lay 4 im = [] ++ lay 4 im := rfl
    have HLY : Hid (∀ x : World, Calls Tryz.prog 35 #[.slice none 0 0, .int .i64 4, .int .u64 (im : Int)] x (LayP x x.heap.size (lay 4 im) x)) := fun x => layk_any (.slice none 0 0) [] 4 im x x x.heap.size (HNIL.out x _) (Below.refl _ _) (Nat.le_refl _) (by simp) (by decide) HKN.out.2
    have HL4 : Hid (([kn] ++ lay 4 im).length = 5 ∧ (lay 4 im).length = 4) := ⟨by simp [lay_len], lay_len _ _⟩
    clear c0 c1 hlay
    refine wp_region_lat (fun y : World => y.cell? ⟨w.heap.size, 0, none⟩ = some (.int .i64 (kn : Int)) ∧ y.cell? ⟨w.heap.size, 1, none⟩ = some (.int .i64 (im : Int))) 11 (by kernel_rfl) hS0 (fun hHeld => ?_)
    generalize w3.drew = z at *
    refine lat_take 0 (v := ?_) rfl (by kernel_rfl) (by kernel_rfl) (by kernel_rfl) (by kernel_rfl) (fun _ _ _ h => h) (by rfl) ?_ (by assumption) ?_
    rotate_left
    · (intro y hSy; (try dsimp only at hSy); (try obtain ⟨q0, q1⟩ := hSy); go_simp <;> with_reducible rfl)
    try simp only [Act.put, List.setIfInBounds_toArray, List.set_cons_zero, List.set_cons_succ]
    refine lat_take 1 (v := ?_) rfl (by kernel_rfl) (by kernel_rfl) (by kernel_rfl) (by kernel_rfl) (fun _ _ _ h => h) (by rfl) ?_ (by assumption) ?_
    rotate_left
    · (intro y hSy; (try dsimp only at hSy); (try obtain ⟨q0, q1⟩ := hSy); go_simp <;> with_reducible rfl)
    try simp only [Act.put, List.setIfInBounds_toArray, List.set_cons_zero, List.set_cons_succ]
    refine lat_take 2 (v := ?_) rfl (by kernel_rfl) (by kernel_rfl) (by kernel_rfl) (by kernel_rfl) (fun _ _ _ h => h) (by rfl) ?_ (by assumption) ?_
    rotate_left
    · (intro y hSy; (try dsimp only at hSy); (try obtain ⟨q0, q1⟩ := hSy); go_simp <;> with_reducible rfl)
    try simp only [Act.put, List.setIfInBounds_toArray, List.set_cons_zero, List.set_cons_succ]
    refine lat_take 4 (v := ?_) rfl (by kernel_rfl) (by kernel_rfl) (by kernel_rfl) (by kernel_rfl) (fun _ _ _ h => h) (by rfl) ?_ (by assumption) ?_
    rotate_left
    · (intro y hSy; (try dsimp only at hSy); (try obtain ⟨q0, q1⟩ := hSy); go_simp <;> with_reducible rfl)
    try simp only [Act.put, List.setIfInBounds_toArray, List.set_cons_zero, List.set_cons_succ]
    refine lat_take 5 (v := ?_) rfl (by kernel_rfl) (by kernel_rfl) (by kernel_rfl) (by kernel_rfl) (fun _ _ _ h => h) (by rfl) ?_ (by assumption) ?_
    rotate_left
    · (intro y hSy; (try dsimp only at hSy); (try obtain ⟨q0, q1⟩ := hSy); go_simp <;> with_reducible rfl)
    try simp only [Act.put, List.setIfInBounds_toArray, List.set_cons_zero, List.set_cons_succ]
    refine lat_take 6 (v := ?_) rfl (by kernel_rfl) (by kernel_rfl) (by kernel_rfl) (by kernel_rfl) (fun _ _ _ h => h) (by rfl) ?_ (by assumption) ?_
    rotate_left
    · (intro y hSy; (try dsimp only at hSy); (try obtain ⟨q0, q1⟩ := hSy); go_simp <;> with_reducible rfl)
    try simp only [Act.put, List.setIfInBounds_toArray, List.set_cons_zero, List.set_cons_succ]
    refine lat_two 3 7 rfl rfl (by kernel_rfl) (by decide) (by decide) (by rfl) (by rfl) (fun K hK => ?_) (fun K hK => ?_)
    · go_simp
      try dsimp only
      have hz1 : Below z.heap.size z (z.alloc (.cells #[.int .u8 (kn : Int)] 5)) := below_box _
      refine hK.out _ _ (HSB.out _ hz1) (fun hH1 => ?_)
      clear hK
      try simp only [Act.put, List.setIfInBounds_toArray, List.set_cons_zero, List.set_cons_succ]
      have ho1 := HONE.out z
      generalize z.alloc (.cells #[.int .u8 (kn : Int)] 5) = z1 at *
      refine lat_one 7 rfl (by kernel_rfl) (by decide) (by rfl) (fun K hK => ?_)
      go_simp
      refine Calls.mono (HLY.out z1) ?_
      rintro e w5 ⟨v2, rfl, ho2, hb2, _⟩
      obtain ⟨a2, c2, rfl, hr2, hn2⟩ := owns_sl ho2 (lt_mem (lay_byt 4 _))
      have hb5 : Below z.heap.size z w5 := hz1.trans (hb2.mono hz1.size)
      refine hK.out _ _ (HSB.out _ hb5) (fun hH2 => ?_)
      clear hK
      try simp only [Act.put, List.setIfInBounds_toArray, List.set_cons_zero, List.set_cons_succ]
      refine lat_one 8 rfl (by kernel_rfl) (by decide) (by rfl) (fun K hK => ?_)
      refine wp_append_row _ _ rfl z.heap.size z _ _ _ rfl (own_any ho1 hb2) hb5 hb5.size a2 c2 (lay 4 im) (by rw [HL4.out.2]; rfl) hr2 hn2 (by rw [HL4.out.2]; omega) ?_
      intro v6 w6 hown6 hb6
      rw [HL4.out.2] at hown6
      obtain ⟨a6, c6, rfl⟩ : ∃ a6 c6, v6 = .slice a6 5 c6 := by
        rcases hown6.2 with ⟨e, h0⟩ | ⟨g, cap, cur, e, _⟩
        · cases h0
        · exact ⟨_, _, e⟩
      refine hK.out _ _ (HSB.out _ hb6) (fun hH3 => ?_)
      clear hK
      try simp only [Act.put, List.setIfInBounds_toArray, List.set_cons_zero, List.set_cons_succ]
      refine lat_take 9 (v := ?_) rfl (by kernel_rfl) (by kernel_rfl) (by kernel_rfl) (by kernel_rfl) (fun _ _ _ h => h) (by rfl) ?_ (by assumption) ?_
      rotate_left
      · (intro y hSy; (try dsimp only at hSy); (try obtain ⟨q0, q1⟩ := hSy); go_simp <;> with_reducible rfl)
      try simp only [Act.put, List.setIfInBounds_toArray, List.set_cons_zero, List.set_cons_succ]
      refine lat_one 10 rfl (by kernel_rfl) (by decide) (by rfl) (fun K hK => ?_)
      go_simp
      try dsimp only
      refine hK.out _ _ (HSB.out _ (hb6.trans ((below_box _).mono hb6.size))) (fun hH4 => ?_)
      clear hK
      try simp only [Act.put, List.setIfInBounds_toArray, List.set_cons_zero, List.set_cons_succ]
      refine lat_last 11 rfl (by kernel_rfl) (by decide) (by kernel_rfl) (by rfl) (fun K hK => ?_)
      go_simp
      try dsimp only
      refine hK.out _ _ ?_
      clear hK
      try simp only [Act.put, List.setIfInBounds_toArray, List.set_cons_zero, List.set_cons_succ]
      have hQ6 := HP1.out w6 _ _ _ hb6 hown6 rfl
      go_wp2_with fail
      go_meet
      exact ⟨_, rfl, hQ6⟩
    · go_simp
      refine Calls.mono (HLY.out z) ?_
      rintro e w5 ⟨v2, rfl, ho2, hb5, _⟩
      obtain ⟨a2, c2, rfl, hr2, hn2⟩ := owns_sl ho2 (lt_mem (lay_byt 4 _))
      refine hK.out _ _ (HSB.out _ hb5) (fun hH1 => ?_)
      clear hK
      try simp only [Act.put, List.setIfInBounds_toArray, List.set_cons_zero, List.set_cons_succ]
      refine lat_one 3 rfl (by kernel_rfl) (by decide) (by rfl) (fun K hK => ?_)
      go_simp
      try dsimp only
      have hz1 : Below z.heap.size z (w5.alloc (.cells #[.int .u8 (kn : Int)] 5)) := hb5.trans ((below_box _).mono hb5.size)
      have hr3 := hr2.below (below_box (w := w5) (.cells #[.int .u8 (kn : Int)] 5))
      have ho1 := own_down (HONE.out w5) hb5.size
      refine hK.out _ _ (HSB.out _ hz1) (fun hH2 => ?_)
      clear hK
      try simp only [Act.put, List.setIfInBounds_toArray, List.set_cons_zero, List.set_cons_succ]
      generalize w5.alloc (.cells #[.int .u8 (kn : Int)] 5) = z1 at *
      refine lat_one 8 rfl (by kernel_rfl) (by decide) (by rfl) (fun K hK => ?_)
      refine wp_append_row _ _ rfl z.heap.size z _ _ _ rfl ho1 hz1 hz1.size a2 c2 (lay 4 im) (by rw [HL4.out.2]; rfl) hr3 hn2 (by rw [HL4.out.2]; omega) ?_
      intro v6 w6 hown6 hb6
      rw [HL4.out.2] at hown6
      obtain ⟨a6, c6, rfl⟩ : ∃ a6 c6, v6 = .slice a6 5 c6 := by
        rcases hown6.2 with ⟨e, h0⟩ | ⟨g, cap, cur, e, _⟩
        · cases h0
        · exact ⟨_, _, e⟩
      refine hK.out _ _ (HSB.out _ hb6) (fun hH3 => ?_)
      clear hK
      try simp only [Act.put, List.setIfInBounds_toArray, List.set_cons_zero, List.set_cons_succ]
      refine lat_take 9 (v := ?_) rfl (by kernel_rfl) (by kernel_rfl) (by kernel_rfl) (by kernel_rfl) (fun _ _ _ h => h) (by rfl) ?_ (by assumption) ?_
      rotate_left
      · (intro y hSy; (try dsimp only at hSy); (try obtain ⟨q0, q1⟩ := hSy); go_simp <;> with_reducible rfl)
      try simp only [Act.put, List.setIfInBounds_toArray, List.set_cons_zero, List.set_cons_succ]
      refine lat_one 10 rfl (by kernel_rfl) (by decide) (by rfl) (fun K hK => ?_)
      go_simp
      try dsimp only
      refine hK.out _ _ (HSB.out _ (hb6.trans ((below_box _).mono hb6.size))) (fun hH4 => ?_)
      clear hK
      try simp only [Act.put, List.setIfInBounds_toArray, List.set_cons_zero, List.set_cons_succ]
      refine lat_last 11 rfl (by kernel_rfl) (by decide) (by kernel_rfl) (by rfl) (fun K hK => ?_)
      go_simp
      try dsimp only
      refine hK.out _ _ ?_
      clear hK
      try simp only [Act.put, List.setIfInBounds_toArray, List.set_cons_zero, List.set_cons_succ]
      have hQ6 := HP1.out w6 _ _ _ hb6 hown6 rfl
      go_wp2_with fail
      go_meet
      exact ⟨_, rfl, hQ6⟩
  case rest =>
    obtain ⟨P, rfl, hQ⟩ := hcut
    have HQ0 : Hid (RPS w w1.heap.size w2.heap.size P (rsc (kn : Int) (im : Int) (dn : Int) b p) CSF CS0 none [] (some ([kn] ++ lay 4 im)) 5 wc) := hQ
    have H45 : Hid (w.heap.size < w2.heap.size) := by have := HS2.out; have := HB1.out.size; show _ < _; omega
    have HKD : Hid (dn < 256) := by show _ < _; omega
    clear hQ HX0 HBW HX1 HX2 HX3 HF4 HF43 HF53 HB2 HB3 HAN KA KB KC HF2 HM2 HZS HZ9 HKN tokG
    try clear c0 c1 c2 c3 c4 c5 c6 c7 c8
    -- the code's byte
    have HQD0 : Hid (RPS w w1.heap.size w2.heap.size P (rsc (kn : Int) (im : Int) (dn : Int) b p) CSF CS0 none [] (some ([kn] ++ lay 4 im)) 5 wc.drew) := RPS.below HQ0.out (below_drew _)
    obtain ⟨c0, c1, c2, c3, c4, c5, c6, c7, c8⟩ := HQC.out _ HQD0.out.h0
    obtain ⟨a1, v1, k1, d0, d1, f0, f1, hx1, ho1, hb1, hl1, hs1⟩ := HQD0.out.pen.open
    have HO1 : Hid (wc.drew.ownsRow w.heap.size 5 1 (.slice a1 v1.length k1) v1.length (cv v1)) := ho1
    have HX1 : Hid (wc.drew.heap[P]? = some (.cells #[.slice a1 v1.length k1, .bool (some ([kn] ++ lay 4 im) : Ls).isNone] 99 (0, 0))) := hx1
    have HS1 : Hid (∀ L, some ([kn] ++ lay 4 im) = some L → v1 = L) := hs1
    have HBT1 : Hid (Byt v1 ∧ v1.length ≤ 5) := ⟨hb1, hl1⟩
    have hS0 : wc.drew.cell? ⟨P, 0, none⟩ = some (.slice a1 v1.length k1) ∧ wc.drew.cell? ⟨w.heap.size, 2, none⟩ = some (.int .i64 (dn : Int)) := ⟨d0, c2⟩
    have HSB : Hid (∀ x, KeepT (x.heap.size + 7) wc.drew x → x.cell? ⟨P, 0, none⟩ = some (.slice a1 v1.length k1) ∧ x.cell? ⟨w.heap.size, 2, none⟩ = some (.int .i64 (dn : Int))) := fun x hx => by
      have ne : ∀ g o, wc.drew.heap[g]? = some o → g ≠ x.heap.size + 7 := fun g o hg => by have := (Array.getElem?_eq_some_iff.1 hg).1; have := hx.size; omega
      have q1 := KeepT.box hx HX1.out (ne _ _ HX1.out) (by decide)
      have q2 := KeepT.box hx HQD0.out.h0 (ne _ _ HQD0.out.h0) (by decide)
      exact ⟨(box_at q1 0).1, (box_at q2 2).1⟩
    clear hx1 ho1 hs1 hb1 hl1 d0 d1 f0 f1 c0 c1 c2 c3 c4 c5 c6 c7 c8
    go_wp2_with fail
    refine wp_region_lat (fun y : World => y.cell? ⟨P, 0, none⟩ = some (.slice a1 v1.length k1) ∧ y.cell? ⟨w.heap.size, 2, none⟩ = some (.int .i64 (dn : Int))) 12 (by kernel_rfl) hS0 (fun hHeld => ?_)
    generalize wc.drew = z at *
    refine lat_take 0 (v := ?_) rfl (by kernel_rfl) (by kernel_rfl) (by kernel_rfl) (by kernel_rfl) (fun _ _ _ h => h) (by rfl) ?_ (by assumption) ?_
    rotate_left
    · (intro y hSy; (try dsimp only at hSy); (try obtain ⟨q0, q1⟩ := hSy); go_simp <;> with_reducible rfl)
    try simp only [Act.put, List.setIfInBounds_toArray, List.set_cons_zero, List.set_cons_succ]
    refine lat_take 1 (v := ?_) rfl (by kernel_rfl) (by kernel_rfl) (by kernel_rfl) (by kernel_rfl) (fun _ _ _ h => h) (by rfl) ?_ (by assumption) ?_
    rotate_left
    · (intro y hSy; (try dsimp only at hSy); (try obtain ⟨q0, q1⟩ := hSy); go_simp <;> with_reducible rfl)
    try simp only [Act.put, List.setIfInBounds_toArray, List.set_cons_zero, List.set_cons_succ]
    refine lat_take 2 (v := ?_) rfl (by kernel_rfl) (by kernel_rfl) (by kernel_rfl) (by kernel_rfl) (fun _ _ _ h => h) (by rfl) ?_ (by assumption) ?_
    rotate_left
    · (intro y hSy; (try dsimp only at hSy); (try obtain ⟨q0, q1⟩ := hSy); go_simp <;> with_reducible rfl)
    try simp only [Act.put, List.setIfInBounds_toArray, List.set_cons_zero, List.set_cons_succ]
    refine lat_take 3 (v := ?_) rfl (by kernel_rfl) (by kernel_rfl) (by kernel_rfl) (by kernel_rfl) (fun _ _ _ h => h) (by rfl) ?_ (by assumption) ?_
    rotate_left
    · (intro y hSy; (try dsimp only at hSy); (try obtain ⟨q0, q1⟩ := hSy); go_simp <;> with_reducible rfl)
    try simp only [Act.put, List.setIfInBounds_toArray, List.set_cons_zero, List.set_cons_succ]
    refine lat_take 4 (v := ?_) rfl (by kernel_rfl) (by kernel_rfl) (by kernel_rfl) (by kernel_rfl) (fun _ _ _ h => h) (by rfl) ?_ (by assumption) ?_
    rotate_left
    · (intro y hSy; (try dsimp only at hSy); (try obtain ⟨q0, q1⟩ := hSy); go_simp <;> with_reducible rfl)
    try simp only [Act.put, List.setIfInBounds_toArray, List.set_cons_zero, List.set_cons_succ]
    refine lat_take 5 (v := ?_) rfl (by kernel_rfl) (by kernel_rfl) (by kernel_rfl) (by kernel_rfl) (fun _ _ _ h => h) (by rfl) ?_ (by assumption) ?_
    rotate_left
    · (intro y hSy; (try dsimp only at hSy); (try obtain ⟨q0, q1⟩ := hSy); go_simp <;> with_reducible rfl)
    try simp only [Act.put, List.setIfInBounds_toArray, List.set_cons_zero, List.set_cons_succ]
    refine lat_take 6 (v := ?_) rfl (by kernel_rfl) (by kernel_rfl) (by kernel_rfl) (by kernel_rfl) (fun _ _ _ h => h) (by rfl) ?_ (by assumption) ?_
    rotate_left
    · (intro y hSy; (try dsimp only at hSy); (try obtain ⟨q0, q1⟩ := hSy); go_simp <;> with_reducible rfl)
    try simp only [Act.put, List.setIfInBounds_toArray, List.set_cons_zero, List.set_cons_succ]
    refine lat_take 7 (v := ?_) rfl (by kernel_rfl) (by kernel_rfl) (by kernel_rfl) (by kernel_rfl) (fun _ _ _ h => h) (by rfl) ?_ (by assumption) ?_
    rotate_left
    · (intro y hSy; (try dsimp only at hSy); (try obtain ⟨q0, q1⟩ := hSy); go_simp <;> with_reducible rfl)
    try simp only [Act.put, List.setIfInBounds_toArray, List.set_cons_zero, List.set_cons_succ]
    refine lat_one 8 rfl (by kernel_rfl) (by decide) (by rfl) (fun K hK => ?_)
    go_simp
    try dsimp only
    refine hK.out _ _ (HSB.out _ (KeepT.of_below (below_box _))) (fun hH1 => ?_)
    clear hK
    try simp only [Act.put, List.setIfInBounds_toArray, List.set_cons_zero, List.set_cons_succ]
    have hr1 := (head_row z dn HKD.out).1
    have ho2 := own_any HO1.out (below_box (w := z) (.cells #[.int .u8 (dn : Int)] 5))
    have hk1 : ∀ B', KeepT B' z (z.alloc (.cells #[.int .u8 (dn : Int)] 5)) := fun B' => KeepT.of_below (below_box _)
    have hb1 : Below w.heap.size w (z.alloc (.cells #[.int .u8 (dn : Int)] 5)) := HQD0.out.pen.bel.trans ((below_box _).mono HQD0.out.pen.bel.size)
    have hz1 : (z.alloc (.cells #[.int .u8 (dn : Int)] 5)).heap.size = z.heap.size + 1 := by simp
    generalize z.alloc (.cells #[.int .u8 (dn : Int)] 5) = z1 at *
    refine lat_one 9 rfl (by kernel_rfl) (by decide) (by rfl) (fun K hK => ?_)
    refine wp_append_rwK _ _ rfl w.heap.size _ v1 rfl ho2 hb1.size ⟨z.heap.size, 0, none⟩ 1 [dn] rfl hr1 (by have := HBT1.out.2; simp only [List.length_cons, List.length_nil]; omega) ?_
    intro v6 w6 hown6 hg6
    obtain ⟨a6, c6, rfl⟩ := own_slice hown6
    have hk6 : ∀ B', KeepT B' z w6 := fun B' => (hk1 B').trans (KeepT.grown ho2 hg6)
    have hF := PnS.app (M := 6) HX1.out HBT1.out.1 HBT1.out.2 HS1.out HQD0.out.pen.low hown6 (hb1.grown hg6 hb1.size (fun k hk => (ho2.lt k hk).1)) hk6 (show Byt [dn] from fun q hq => by simp at hq; have := HKD.out; omega) (by simp)
    obtain ⟨d0, d1, f0, f1⟩ := pen_cells (pen_box HX1.out hk6)
    refine hK.out _ _ (HSB.out _ (hk6 _)) (fun hH2 => ?_)
    clear hK
    have HQ6 : Hid (RPS w w1.heap.size w2.heap.size P (rsc (kn : Int) (im : Int) (dn : Int) b p) CSF CS0 none [] (some (([kn] ++ lay 4 im) ++ [dn])) 6 (w6.setCell ⟨P, 0, none⟩ (.slice a6 (v1 ++ [dn]).length c6))) := RPS.pens HQD0.out hF.2 hF.1
    have hla : (v1 ++ [dn]).length = v1.length + 1 := by simp
    try simp only [Act.put, List.setIfInBounds_toArray, List.set_cons_zero, List.set_cons_succ]
    clear hF hk6 hown6 hg6 hr1 ho2 hk1 hb1 hz1
    refine lat_take 10 (v := ?_) rfl (by kernel_rfl) (by kernel_rfl) (by kernel_rfl) (by kernel_rfl) (fun _ _ _ h => h) (by rfl) ?_ (by assumption) ?_
    rotate_left
    · (intro y hSy; (try dsimp only at hSy); (try obtain ⟨q0, q1⟩ := hSy); go_simp <;> with_reducible rfl)
    try simp only [Act.put, List.setIfInBounds_toArray, List.set_cons_zero, List.set_cons_succ]
    refine lat_take 11 (v := ?_) rfl (by kernel_rfl) (by kernel_rfl) (by kernel_rfl) (by kernel_rfl) (fun _ _ _ h => h) (by rfl) ?_ (by assumption) ?_
    rotate_left
    · (intro y hSy; (try dsimp only at hSy); (try obtain ⟨q0, q1⟩ := hSy); go_simp <;> with_reducible rfl)
    try simp only [Act.put, List.setIfInBounds_toArray, List.set_cons_zero, List.set_cons_succ]
    refine lat_last 12 rfl (by kernel_rfl) (by decide) (by kernel_rfl) (by rfl) (fun K hK => ?_)
    go_simp
    try dsimp only
    refine hK.out _ _ ?_
    clear hK d0 d1 f0 f1
    try simp only [Act.put, List.setIfInBounds_toArray, List.set_cons_zero, List.set_cons_succ]
    rw [hla] at HQ6
    try rw [hla]
    clear hla
    generalize w6.setCell ⟨P, 0, none⟩ (.slice a6 (v1.length + 1) c6) = w7 at *
    obtain ⟨c0, c1, c2, c3, c4, c5, c6, c7, c8⟩ := HQC.out _ HQ6.out.h0
    go_wp2_with (go_at_call 23; refine (HRW.out _).mono ?_; rintro e w8 ⟨⟨ga, gc, rfl, hw⟩, hb9⟩; have HWB : Hid (WBox w8 ga (rowOr (rowA (kn : Int)))) := hw; have HQ8 : Hid (RPS w w1.heap.size w2.heap.size P (rsc (kn : Int) (im : Int) (dn : Int) b p) CSF CS0 none [] (some (([kn] ++ lay 4 im) ++ [dn])) 6 w8) := RPS.below HQ6.out hb9; clear c0 c1 c2 c3 c4 c5 c6 c7 c8; obtain ⟨c0, c1, c2, c3, c4, c5, c6, c7, c8⟩ := HQC.out _ HQ8.out.h0; clear hw hb9)
    clear HQ0 HQ6 HWB HQD0 HX1 HO1 HS1 HBT1 HSB c0 c1 c2 c3 c4 c5 c6 c7 c8 g7
    go_loopw [8] (fun iv wr => iv = .int .i64 0 ∧ wr = w8) (fun iv _ => 0)
    case atStart => exact ⟨rfl, rfl⟩
    case round =>
      obtain ⟨rfl, rfl⟩ := hrel
      have HQ : Hid (RPS w w1.heap.size w2.heap.size P (rsc (kn : Int) (im : Int) (dn : Int) b p) CSF CS0 none [] (some (([kn] ++ lay 4 im) ++ [dn])) 6 wr) := HQ8.out
      have e9 : st ([] : List Nat).length = some (([kn] ++ lay 4 im) ++ [dn]) := by rw [HST.out]; simp [eFs, oa_nil]
      rw [e9] at HSX
      clear HQ8 e9
      obtain ⟨SL, HSL⟩ : ∃ SL, Hid (some (([kn] ++ lay 4 im) ++ [dn]) = SL) := ⟨_, rfl⟩
      rw [HSL.out] at HQ HSX
      obtain ⟨a3, l3, c3, p0, p1, e0, e1, hx3, ho3, hbt3, hl3, hs3⟩ := HQ.out.pen.open
      have HBD : Hid (Below w.heap.size w wr) := HQ.out.pen.bel
      have HL3 : Hid (l3.length ≤ 100000000) := by show _ ≤ _; omega
      have HX3 : Hid (wr.heap[P]? = some (.cells #[.slice a3 l3.length c3, .bool SL.isNone] 99 (0, 0))) := hx3
      have HP3 : Hid (wr.ownsRow w.heap.size 5 1 (.slice a3 l3.length c3) l3.length (cv l3) ∧ Byt l3 ∧ ∀ L', SL = some L' → l3 = L') := ⟨ho3, hbt3, hs3⟩
      have HR9 : Hid (CS0.size = 9) := HM1.out
      clear hx3 ho3 hbt3 hs3
      cases SL with
      | none =>
        simp only [Option.isNone_none] at p1
        have hsx : SX = none := by rw [HSX.out]; split <;> rfl
        subst hsx
        go_wp2_with fail
        go_ret2
        exact encP_no HBD.out
      | some L =>
        simp only [Option.isNone_some] at p1
        have tokX : True := trivial
        go_wp2_with (first
          | (have _h := tokX; refine load_row_g (by rfl) 38 _ rfl w2.heap.size rfl 38 CS0 (0, 0) _ (by exact HQ.out.h5) Tryz.underlying38 rfl (by rw [HR9.out]; exact Tryz.info38) ?_; clear _h tokX; have tokY : True := trivial; simp only [Act.put, List.setIfInBounds_toArray, List.set_cons_zero, List.set_cons_succ])
          | (have _h := tokY; refine load_row_g (by rfl) 38 _ rfl w.heap.size rfl 38 (rsc (kn : Int) (im : Int) (dn : Int) b p) (0, 0) _ (by exact HQ.out.h0) Tryz.underlying38 rfl (by rw [HQ9.out]; exact Tryz.info38) ?_; clear _h tokY; simp only [Act.put, List.setIfInBounds_toArray, List.set_cons_zero, List.set_cons_succ])
          | (go_at_call 11; refine (HSM.out _ HBD.out).mono ?_; rintro e x2 ⟨rfl, hu2⟩; have HU2 : Hid (Below wr.heap.size wr x2) := hu2; clear hu2 p0 p1 e0 e1; obtain ⟨p0, p1, e0, e1⟩ := pen_cells (box_keep' HX3.out HU2.out); cases R))
        · go_ret2
          rw [show SX = none by rw [HSX.out]; simp]
          exact encP_no (HBD.out.trans (HU2.out.mono HBD.out.size))
        · go_ret2
          have e3 : l3 = L := HP3.out.2.2 L rfl
          subst e3
          rw [show SX = some l3 by rw [HSX.out]; simp]
          exact encP_yes (own_any HP3.out.1 HU2.out) HP3.out.2.1 (Nat.le_trans HL3.out (by decide)) (HBD.out.trans (HU2.out.mono HBD.out.size))
theorem refRes_any (k i d : Int) (b : Bd) (p : Pt) (w : World) (hv : VB b) (hz : ∀ f, f ≤ 14 → f ≠ 12 → b f = fz) (ht : Tab w) (hr : SRows w b p) (l1 : (b 17).nm.length ≤ 300) (l2 : (b 18).ct.length ≤ 300) (l3 : (b 19).bs.length ≤ 300) (ln : ∀ s, s ∈ (b 17).nm → s.size ≤ 30000) : Calls Tryz.prog 14 #[.agg (rsc k i d b p)] w (EncP (resE k i d b) w) := by
  have no : ∀ {e : Ending} {w' : World}, resE k i d b = none → (e = .returned (.tuple #[.slice none 0 0, .int .i64 1]) ∧ Below w.heap.size w w') → EncP (resE k i d b) w e w' := fun h q => by
    rw [h, q.1]; exact encP_no q.2
  have rn : (k < 0 ∨ 8 < k) → resE k i d b = none := fun h => by
    have : rowA k = none := by
      unfold rowA
      rw [if_neg (by omega), if_neg (by omega), if_neg (by omega), if_neg (by omega), if_neg (by omega), if_neg (by omega), if_neg (by omega), if_neg (by omega), if_neg (by omega)]
    unfold resE msgE ansRow
    rw [this]
    simp
  have ri : (eNat 4 i = none ∨ eNat 1 d = none) → resE k i d b = none := fun h => by
    unfold resE msgE
    cases ansRow k d with
    | none => rfl
    | some r =>
      rcases h with h | h
      · simp only [eNs, h, none_oa, oa_none]; split <;> rfl
      · simp only [eNs, h, none_oa, oa_none]; split <;> rfl
  by_cases h1 : k < 0
  · exact Calls.mono (rs_no0 k i d b p w h1) (fun e w' q => no (rn (.inl h1)) q)
  by_cases h2 : k > 8
  · exact Calls.mono (rs_no1 k i d b p w h1 h2) (fun e w' q => no (rn (.inr h2)) q)
  by_cases h3 : i < 0
  · exact Calls.mono (rs_no2 k i d b p w h1 h2 h3) (fun e w' q => no (ri (.inl (by unfold eNat; rw [if_neg (by omega)]))) q)
  by_cases h4 : i > 4294967295
  · exact Calls.mono (rs_no3 k i d b p w h1 h2 h3 h4) (fun e w' q => no (ri (.inl (by unfold eNat; rw [if_neg (by omega)]))) q)
  by_cases h5 : d < 0
  · exact Calls.mono (rs_no4 k i d b p w h1 h2 h3 h4 h5) (fun e w' q => no (ri (.inr (by unfold eNat; rw [if_neg (by omega)]))) q)
  by_cases h6 : d > 255
  · exact Calls.mono (rs_no5 k i d b p w h1 h2 h3 h4 h5 h6) (fun e w' q => no (ri (.inr (by unfold eNat; rw [if_neg (by omega)]))) q)
  obtain ⟨kn, rfl⟩ : ∃ kn : Nat, k = (kn : Int) := ⟨k.toNat, by omega⟩
  obtain ⟨im, rfl⟩ : ∃ im : Nat, i = (im : Int) := ⟨i.toNat, by omega⟩
  obtain ⟨dn, rfl⟩ : ∃ dn : Nat, d = (dn : Int) := ⟨d.toNat, by omega⟩
  have e1 : ∀ q : Nat, q ≤ 255 → eNat 1 (q : Int) = some [q] := fun q hq => by
    unfold eNat
    rw [if_pos (by constructor <;> omega), Int.toNat_natCast]
    rw [show lay 1 q = [q] from by simp [lay]; omega]
  have e4 : eNat 4 (im : Int) = some (lay 4 im) := by
    unfold eNat
    rw [if_pos (by constructor <;> omega), Int.toNat_natCast]
  obtain ⟨ra, hra⟩ : ∃ ra, rowA (kn : Int) = some ra := by
    rcases (show kn = 0 ∨ kn = 1 ∨ kn = 2 ∨ kn = 3 ∨ kn = 4 ∨ kn = 5 ∨ kn = 6 ∨ kn = 7 ∨ kn = 8 by omega) with rfl | rfl | rfl | rfl | rfl | rfl | rfl | rfl | rfl <;> exact ⟨_, rfl⟩
  have ex : ∀ r, ansRow (kn : Int) (dn : Int) = some r → resE (kn : Int) (im : Int) (dn : Int) b = if (!(moreB b r)) = true then oa (some (([kn] ++ lay 4 im) ++ [dn])) (eFs b r) else none := fun r h => by
    unfold resE msgE
    rw [h]
    simp only [eNs, e1 kn (by omega), e4, e1 dn (by omega)]
    cases moreB b r <;> simp [oa]
  by_cases h7 : dn = 0
  · subst h7
    by_cases h8 : kn = 0
    · subst h8
      exact Calls.mono (rs_no6 _ _ _ b p w h3 h4 rfl rfl) (fun e w' q => no rfl q)
    · have ha : ansRow (kn : Int) ((0 : Nat) : Int) = some ra := by unfold ansRow; rw [if_pos (show ((0 : Nat) : Int) = 0 from rfl), if_neg (by omega)]; exact hra
      refine rs_yes0 kn im b p w hv hz ht hr l1 l2 l3 ln (by omega) (by omega) (by omega) ra (by rw [hra]; rfl) (fun j => oa (some (([kn] ++ lay 4 im) ++ [0])) (eFs b (ra.take j))) (fun j => rfl) _ rfl _ ?_
      show resE (kn : Int) (im : Int) ((0 : Nat) : Int) b = _
      rw [ex ra ha]
      simp only [List.take_length]
  · have ha : ansRow (kn : Int) (dn : Int) = some [] := by unfold ansRow; rw [if_neg (by omega), hra]; rfl
    refine rs_yes1 kn im dn b p w hv hz ht hr l1 l2 l3 ln (by omega) (by omega) (by omega) (by omega) (fun j => oa (some (([kn] ++ lay 4 im) ++ [dn])) (eFs b (([] : List Nat).take j))) (fun j => rfl) _ rfl _ ?_
    show resE (kn : Int) (im : Int) (dn : Int) b = _
    rw [ex [] ha]
    rfl
end Go.Proofs.YtaooidckmepdeaaGreatDoor
namespace Go.Proofs.YtaooidckmepdeaaGreatDoor
set_option linter.unusedSimpArgs false
set_option linter.unusedVariables false
open Go.RowKit Go.ChangeShapes Go.WideShapes Go.ChangeAt
theorem bytesOf9 : Tryz.prog.bytesOf 9 = 16 := by kernel_rfl
theorem bytesOf3 : Tryz.prog.bytesOf 3 = 8 := by kernel_rfl
theorem bytesOf85 : Tryz.prog.bytesOf 88 = 56 := by kernel_rfl
theorem cells34 : Tryz.prog.cellsOf 34 = 1 := by kernel_rfl
theorem cells35 : Tryz.prog.cellsOf 35 = 1 := by kernel_rfl
theorem cells36 : Tryz.prog.cellsOf 36 = 1 := by kernel_rfl
theorem cells29 : Tryz.prog.cellsOf 29 = 1 := by kernel_rfl
theorem cells38 : Tryz.prog.cellsOf 38 = 9 := by kernel_rfl
theorem weights_at {H : Type} {ts : List TypeId} {ds : List (DataW H)} {j : Nat} {t : TypeId} {d : DataW H} (ht : ts[j]? = some t) (hd : ds[j]? = some d) (h : (DataW.weightsEach Tryz.prog ts ds).all (· ≤ reachBytes) = true) : ∀ n ∈ d.weights Tryz.prog t, n ≤ reachBytes := by
  intro n hn
  have := List.all_eq_true.1 h n (DataW.weights_mem_each ht hd n hn)
  simpa using this
theorem mem_all {H : Type} {P : Program} {e : TypeId} : ∀ {ds : List (DataW H)} {d : DataW H}, d ∈ ds → ∀ n ∈ d.weights P e, n ∈ DataW.weightsAll P e ds
  | d0 :: r, d, hd, n, hn => by
    simp only [DataW.weightsAll, List.mem_append]
    rcases List.mem_cons.1 hd with rfl | h
    · exact .inl hn
    · exact .inr (mem_all h n hn)
theorem str_weight {H : Type} {t : TypeId} {s : ByteArray} {y : DataW H} (h : y = .lit (.string s.data.toList)) : s.size ∈ y.weights Tryz.prog t := by
  rw [h]
  exact List.mem_singleton.2 rfl
theorem strs_of {H : Type} {enc : TypeId × Value → H} {W : World} {base fuel : Nat} {sp : Nat → Bool} {held : Bool} {a0 : Option Addr} {L cap0 : Nat} {x : DataW H × List MemPlace}
    (h : DataW.trod enc Tryz.prog W base sp held fuel 34 [.slice a0 L cap0] = some x) (hw : ∀ n ∈ x.1.weights Tryz.prog 34, n ≤ reachBytes) : ∃ l : List ByteArray, L = l.length ∧ SRow W a0 l ∧ l.length ≤ reachBytes ∧ ∀ s, s ∈ l → s.size ≤ reachBytes := by
  rcases Go.Deep.open_slice1 Tryz.underlying34 cells9 h with ⟨hcs, _⟩ | ⟨ad, len, cap, m, n, V, D, Pl, hcs, _, hl, hm, hmm, hd, hx⟩
  · simp at hcs
    obtain ⟨rfl, rfl, rfl⟩ := hcs
    exact ⟨[], rfl, fun i hi => by simp at hi, by simp, fun s hs => by cases hs⟩
  · simp at hcs
    obtain ⟨rfl, rfl, rfl⟩ := hcs
    have hlm : L ≤ m := by rw [hmm]; split <;> omega
    have hL : (L + (m - L)) * 16 ≤ reachBytes := hw _ (by rw [hd]; simp [DataW.weights, Tryz.underlying34, bytesOf9])
    have each : ∀ i, i < L → ∃ s : ByteArray, (∃ g off, some ad = some ⟨g, off, none⟩ ∧ W.cell? ⟨g, off + i, none⟩ = some (.string s)) ∧ s.size ≤ reachBytes := by
      intro i hi
      obtain ⟨h1, h2⟩ := hx i (by omega)
      obtain ⟨b, off, spot⟩ := ad
      have hsp : spot = none := by
        have h0 := (hx 0 (by omega)).1
        simpa [Addr.add] using World.cell?_spot h0
      subst hsp
      obtain ⟨s, q, w0, w1⟩ := DataW.trod_string Tryz.underlying9 h2
      simp at q
      rw [q, Addr.add_lit] at h1
      exact ⟨s, ⟨b, off, rfl, h1⟩, hw _ (by rw [hd]; simp only [DataW.weights, Tryz.underlying34, List.mem_cons, List.mem_append]; exact .inr (.inl (mem_all (List.mem_map.2 ⟨i, by simpa using hi, rfl⟩) _ (str_weight (congrArg Prod.fst w0)))))⟩
    obtain ⟨l, hll, hr⟩ := list_of ⟨#[]⟩ _ L each
    refine ⟨l, hll.symm, fun i hi => by rw [hll] at hi; exact (hr i hi).1, by unfold reachBytes at *; omega, fun s hs => ?_⟩
    obtain ⟨j, hj, rfl⟩ := List.getElem_of_mem hs
    have := (hr j (by omega)).2
    rw [List.getD_eq_getElem?_getD, List.getElem?_eq_getElem hj] at this
    exact this
theorem ints_of {H : Type} {enc : TypeId × Value → H} {W : World} {base fuel : Nat} {sp : Nat → Bool} {held : Bool} {a0 : Option Addr} {L cap0 : Nat} {x : DataW H × List MemPlace}
    (h : DataW.trod enc Tryz.prog W base sp held fuel 35 [.slice a0 L cap0] = some x) (hw : ∀ n ∈ x.1.weights Tryz.prog 35, n ≤ reachBytes) : ∃ l : List Int, L = l.length ∧ IRow W a0 l ∧ l.length ≤ reachBytes ∧ ∀ s, s ∈ l → In64 s := by
  rcases Go.Deep.open_slice1 Tryz.underlying35 cells3 h with ⟨hcs, _⟩ | ⟨ad, len, cap, m, n, V, D, Pl, hcs, _, hl, hm, hmm, hd, hx⟩
  · simp at hcs
    obtain ⟨rfl, rfl, rfl⟩ := hcs
    exact ⟨[], rfl, fun i hi => by simp at hi, by simp, fun s hs => by cases hs⟩
  · simp at hcs
    obtain ⟨rfl, rfl, rfl⟩ := hcs
    have hlm : L ≤ m := by rw [hmm]; split <;> omega
    have hL : (L + (m - L)) * 8 ≤ reachBytes := hw _ (by rw [hd]; simp [DataW.weights, Tryz.underlying35, bytesOf3])
    have each : ∀ i, i < L → ∃ s : Int, (∃ g off, some ad = some ⟨g, off, none⟩ ∧ W.cell? ⟨g, off + i, none⟩ = some (.int .i64 s)) ∧ In64 s := by
      intro i hi
      obtain ⟨h1, h2⟩ := hx i (by omega)
      obtain ⟨b, off, spot⟩ := ad
      have hsp : spot = none := by
        have h0 := (hx 0 (by omega)).1
        simpa [Addr.add] using World.cell?_spot h0
      subst hsp
      obtain ⟨s, q, _, w1⟩ := DataW.trod_int Tryz.underlying3 h2
      simp at q
      rw [q, Addr.add_lit] at h1
      exact ⟨s, ⟨b, off, rfl, h1⟩, bd64 w1⟩
    obtain ⟨l, hll, hr⟩ := list_of 0 _ L each
    refine ⟨l, hll.symm, fun i hi => by rw [hll] at hi; exact (hr i hi).1, by unfold reachBytes at *; omega, fun s hs => ?_⟩
    obtain ⟨j, hj, rfl⟩ := List.getElem_of_mem hs
    have := (hr j (by omega)).2
    rw [List.getD_eq_getElem?_getD, List.getElem?_eq_getElem hj] at this
    exact this
theorem bats_len {H : Type} {enc : TypeId × Value → H} {W : World} {base fuel : Nat} {sp : Nat → Bool} {held : Bool} {a0 : Option Addr} {L cap0 : Nat} {x : DataW H × List MemPlace}
    (h : DataW.trod enc Tryz.prog W base sp held fuel 36 [.slice a0 L cap0] = some x) (hw : ∀ n ∈ x.1.weights Tryz.prog 36, n ≤ reachBytes) : L ≤ reachBytes := by
  rcases Go.Deep.open_slice Tryz.underlying36 h with ⟨hcs, _⟩ | ⟨ad, len, cap, m, n, D, Pl, hcs, _, hl, hm, hmm, hd, hx⟩
  · simp at hcs
    omega
  · simp at hcs
    obtain ⟨rfl, rfl, rfl⟩ := hcs
    have hL : (L + (m - L)) * 56 ≤ reachBytes := hw _ (by rw [hd]; simp [DataW.weights, Tryz.underlying36, bytesOf85])
    unfold reachBytes at *
    omega
theorem array9 {α : Type} {cs : Array α} (h : cs.size = 9) : ∃ c0 c1 c2 c3 c4 c5 c6 c7 c8, cs = #[c0, c1, c2, c3, c4, c5, c6, c7, c8] := by
  obtain ⟨l⟩ := cs
  match l, h with
  | [c0, c1, c2, c3, c4, c5, c6, c7, c8], _ => exact ⟨c0, c1, c2, c3, c4, c5, c6, c7, c8, rfl⟩
/-- A response's fields, by their numbers. -/
def bds (n12 n15 n16 : Int) (nm : List ByteArray) (ct : List Int) (bs : List Ba) : Bd := fun f =>
  if f = 12 then vn n12 else if f = 15 then vn n15 else if f = 16 then vn n16 else if f = 17 then vm nm else if f = 18 then vc ct else if f = 19 then vb bs else fz
theorem bds_b (n12 n15 n16 : Int) (nm : List ByteArray) (ct : List Int) (bs : List Ba) (h12 : In64 n12) (h15 : In64 n15) (h16 : In64 n16) (hc : ∀ x, x ∈ ct → In64 x) (hb : ∀ x, x ∈ bs → In64B x) : VB (bds n12 n15 n16 nm ct bs) ∧ ∀ f, f ≤ 14 → f ≠ 12 → bds n12 n15 n16 nm ct bs f = fz := by
  have low : ∀ f, f ≤ 14 → f ≠ 12 → bds n12 n15 n16 nm ct bs f = fz := fun f h1 h2 => by
    unfold bds
    rw [if_neg h2, if_neg (by omega), if_neg (by omega), if_neg (by omega), if_neg (by omega), if_neg (by omega)]
  refine ⟨⟨fun f hf => ?_, fun f hf => ?_⟩, low⟩
  · by_cases h : f ≤ 14 ∧ f ≠ 12
    · rw [low f h.1 h.2]; exact VK_fz f
    · rcases (show f = 12 ∨ f = 15 ∨ f = 16 ∨ f = 17 ∨ f = 18 ∨ f = 19 by omega) with rfl | rfl | rfl | rfl | rfl | rfl
      · exact ⟨rfl, h12⟩
      · exact ⟨rfl, h15⟩
      · exact ⟨rfl, h16⟩
      · exact (rfl : vm nm = _)
      · exact ⟨rfl, hc⟩
      · exact ⟨rfl, hb⟩
  · unfold bds
    rw [if_neg (by omega), if_neg (by omega), if_neg (by omega), if_neg (by omega), if_neg (by omega), if_neg (by omega)]
/-- A response that came in. -/
structure ResIn (w : World) (k i d : Int) (b : Bd) (p : Pt) : Prop where
  hk : In64 k
  hi : In64 i
  hd : In64 d
  v : VB b
  z : ∀ f, f ≤ 14 → f ≠ 12 → b f = fz
  r : SRows w b p
  ln : (b 17).nm.length ≤ reachBytes
  lc : (b 18).ct.length ≤ reachBytes
  lb : (b 19).bs.length ≤ reachBytes
  ne : ∀ x, x ∈ (b 17).nm → x.size ≤ reachBytes
theorem ResIn.below {w w' : World} {k i d : Int} {b : Bd} {p : Pt} (h : ResIn w k i d b p) (hb : Below w.heap.size w w') : ResIn w' k i d b p :=
  ⟨h.hk, h.hi, h.hd, h.v, h.z, h.r.below hb, h.ln, h.lc, h.lb, h.ne⟩
set_option maxRecDepth 100000 in
theorem resp_of {H : Type} {enc : TypeId × Value → H} {W : World} {r : Reach} {base b0 : Nat} {sp : Nat → Bool} {held : Bool} {v : Value} {d : DataW H} {p : List MemPlace}
    (hv : Value.okWide Tryz.prog W r b0 38 v) (h : DataW.Trod enc Tryz.prog W base sp held 38 v d p) (hw : ∀ n ∈ d.weights Tryz.prog 38, n ≤ reachBytes) : ∃ (k i e : Int) (b : Bd) (q : Pt), v = .agg (rsc k i e b q) ∧ ResIn W k i e b q := by
  obtain ⟨cs, rfl, hsz⟩ := okWide_struct Tryz.underlying38 hv
  obtain ⟨c0, c1, c2, c3, c4, c5, c6, c7, c8, rfl⟩ := array9 (hsz.trans cells38)
  obtain ⟨fuel, hf⟩ := h
  obtain ⟨xs, k, hk, hxy, _, hxl, hg⟩ := DataW.trod_struct Tryz.underlying38 hf
  match xs, hxl with
  | [y0, y1, y2, y3, y4, y5, y6, y7, y8], _ =>
    have g0 := hg 0 _ rfl
    have g1 := hg 1 _ rfl
    have g2 := hg 2 _ rfl
    have g3 := hg 3 _ rfl
    have g4 := hg 4 _ rfl
    have g5 := hg 5 _ rfl
    have g6 := hg 6 _ rfl
    have g7 := hg 7 _ rfl
    have g8 := hg 8 _ rfl
    simp [cells3, cells29, cells34, cells35, cells36, Value.cells] at g0 g1 g2 g3 g4 g5 g6 g7 g8
    obtain ⟨n0, q0, _, w0⟩ := DataW.trod_int Tryz.underlying3 g0
    obtain ⟨n1, q1, _, w1⟩ := DataW.trod_int Tryz.underlying3 g1
    obtain ⟨n2, q2, _, w2⟩ := DataW.trod_int Tryz.underlying29 g2
    obtain ⟨n3, q3, _, w3⟩ := DataW.trod_int Tryz.underlying3 g3
    obtain ⟨n4, q4, _, w4⟩ := DataW.trod_int Tryz.underlying3 g4
    obtain ⟨n5, q5, _, w5⟩ := DataW.trod_int Tryz.underlying3 g5
    simp at q0 q1 q2 q3 q4 q5
    subst q0; subst q1; subst q2; subst q3; subst q4; subst q5
    have hDi : d = .agg [y0.1, y1.1, y2.1, y3.1, y4.1, y5.1, y6.1, y7.1, y8.1] := by have := congrArg Prod.fst hxy; simpa using this
    have b6 : ∀ m ∈ y6.1.weights Tryz.prog 34, m ≤ reachBytes := fun m hm' => hw m (by
      rw [hDi]
      simp only [DataW.weights, Tryz.underlying38]
      exact DataW.weights_mem_each (j := 6) rfl rfl _ hm')
    have b7 : ∀ m ∈ y7.1.weights Tryz.prog 35, m ≤ reachBytes := fun m hm' => hw m (by
      rw [hDi]
      simp only [DataW.weights, Tryz.underlying38]
      exact DataW.weights_mem_each (j := 7) rfl rfl _ hm')
    have b8 : ∀ m ∈ y8.1.weights Tryz.prog 36, m ≤ reachBytes := fun m hm' => hw m (by
      rw [hDi]
      simp only [DataW.weights, Tryz.underlying38]
      exact DataW.weights_mem_each (j := 8) rfl rfl _ hm')
    obtain ⟨a6, l6, k6, rfl⟩ : ∃ a1 l1 c1, c6 = .slice a1 l1 c1 := by
      rcases Go.Deep.open_slice Tryz.underlying34 g6 with ⟨hcs, _⟩ | ⟨ad, len, cap, m, n, D, Pl, hcs, _⟩
      · simp at hcs; exact ⟨_, _, _, hcs⟩
      · simp at hcs; exact ⟨_, _, _, hcs⟩
    obtain ⟨a7, l7, k7, rfl⟩ : ∃ a1 l1 c1, c7 = .slice a1 l1 c1 := by
      rcases Go.Deep.open_slice Tryz.underlying35 g7 with ⟨hcs, _⟩ | ⟨ad, len, cap, m, n, D, Pl, hcs, _⟩
      · simp at hcs; exact ⟨_, _, _, hcs⟩
      · simp at hcs; exact ⟨_, _, _, hcs⟩
    obtain ⟨a8, l8, k8, rfl⟩ : ∃ a1 l1 c1, c8 = .slice a1 l1 c1 := by
      rcases Go.Deep.open_slice Tryz.underlying36 g8 with ⟨hcs, _⟩ | ⟨ad, len, cap, m, n, D, Pl, hcs, _⟩
      · simp at hcs; exact ⟨_, _, _, hcs⟩
      · simp at hcs; exact ⟨_, _, _, hcs⟩
    obtain ⟨nm, rfl, hn1, hn2, hn3⟩ := strs_of g6 b6
    obtain ⟨ct, rfl, hc1, hc2, hc3⟩ := ints_of g7 b7
    have hb2 := bats_len g8 b8
    obtain ⟨ss, rfl, hb1, _⟩ := bats_of g8
    obtain ⟨v1, v2⟩ := bds_b n3 n4 n5 nm ct (ss.map (·.b)) (bd64 w3) (bd64 w4) (bd64 w5) hc3 (fun x hx => by
      obtain ⟨s, hs, rfl⟩ := List.mem_map.1 hx
      obtain ⟨j, hj, rfl⟩ := List.getElem_of_mem hs
      have := (hb1.2 j hj).2.1
      rw [List.getD_eq_getElem?_getD, List.getElem?_eq_getElem hj] at this
      exact this)
    exact ⟨n0, n1, n2, bds n3 n4 n5 nm ct (ss.map (·.b)), ⟨none, 0, a6, k6, a7, k7, a8, k8, ss⟩, rfl, bd64 w0, bd64 w1, bd64 w2, v1, v2, ⟨⟨rfl, rfl⟩, hn1, hc1, hb1, rfl⟩, hn2, hc2, by show (ss.map (·.b)).length ≤ _; rw [List.length_map]; exact hb2, hn3⟩
theorem ResIn.val {w : World} {k i d : Int} {b : Bd} {p : Pt} (h : ResIn w k i d b p) : SVal w (rsc k i d b p) k i d b := ⟨p, rfl, h.r⟩
end Go.Proofs.YtaooidckmepdeaaGreatDoor
namespace Go.Proofs.YtaooidckmepdeaaGreatDoor
set_option linter.unusedSimpArgs false
set_option linter.unusedVariables false
open Go.RowKit
def nsum : List ByteArray → Nat
  | [] => 0
  | s :: l => s.size + nsum l
theorem nsum_app (a b : List ByteArray) : nsum (a ++ b) = nsum a + nsum b := by
  induction a with
  | nil => simp [nsum]
  | cons x r ih => simp only [List.cons_append, nsum, ih]; omega
theorem nsum_take (l : List ByteArray) (j : Nat) (h : j < l.length) : nsum (l.take (j + 1)) = nsum (l.take j) + (l.getD j ⟨#[]⟩).size := by
  rw [List.take_succ_eq_append_getElem h, nsum_app, List.getD_eq_getElem?_getD, List.getElem?_eq_getElem h]
  simp [nsum]
theorem nsum_mem : ∀ {l : List ByteArray} {s : ByteArray}, s ∈ l → s.size ≤ nsum l
  | x :: l, s, h => by
    rcases List.mem_cons.1 h with rfl | q
    · simp only [nsum]; omega
    · have := nsum_mem q; simp only [nsum]; omega
def IsS (nm : List ByteArray) (c b : Nat) (e : Ending) : Prop := ∃ r : Bool, e = .returned (.bool r) ∧ (r = true → nm.length ≤ 300 ∧ c ≤ 300 ∧ b ≤ 300 ∧ ∀ s, s ∈ nm → s.size ≤ 30000)
set_option maxHeartbeats 1600000 in
set_option maxRecDepth 100000 in
theorem inS_big (cs : Array Value) (na ca ba : Option Addr) (nc cc bc N2 N3 : Nat) (nm : List ByteArray) (w : World) (HC : Hid (cs[6]? = some (.slice na nm.length nc) ∧ cs[7]? = some (.slice ca N2 cc) ∧ cs[8]? = some (.slice ba N3 bc))) (h1 : nm.length ≤ 140737488351232) (h2 : N2 ≤ 140737488351232) (h3 : N3 ≤ 140737488351232) (hbig : 300 < nm.length + N2 + N3) :
    Calls Tryz.prog 12 #[.agg cs] w fun e w' => IsS nm N2 N3 e ∧ Below w.heap.size w w' := by
  have HB : Hid (BxW w 38 cs (w.alloc (.cells cs 38))) := BxW.new _ _ _
  have c6 : (w.alloc (.cells cs 38)).cell? ⟨w.heap.size, 6, none⟩ = some (.slice na nm.length nc) := by rw [(box_at HB.out.box 6).1]; exact HC.out.1
  have c7 : (w.alloc (.cells cs 38)).cell? ⟨w.heap.size, 7, none⟩ = some (.slice ca N2 cc) := by rw [(box_at HB.out.box 7).1]; exact HC.out.2.1
  have c8 : (w.alloc (.cells cs 38)).cell? ⟨w.heap.size, 8, none⟩ = some (.slice ba N3 bc) := by rw [(box_at HB.out.box 8).1]; exact HC.out.2.2
  have e1 : IntKind.i64.wrap ((nm.length : Int) + (N2 : Int)) = (nm.length : Int) + (N2 : Int) := by rw [IntKind.wrap_i64]; omega
  have e2 : IntKind.i64.wrap ((nm.length : Int) + (N2 : Int) + (N3 : Int)) = (nm.length : Int) + (N2 : Int) + (N3 : Int) := by rw [IntKind.wrap_i64]; omega
  have hgt : (nm.length : Int) + (N2 : Int) + (N3 : Int) > 300 := by omega
  clear HC
  go_enter Tryz.func12, Tryz.ntmps12
  go_wp2
  go_ret
  exact ⟨⟨false, rfl, fun q => by cases q⟩, HB.out.bel⟩
set_option maxHeartbeats 3000000 in
set_option maxRecDepth 100000 in
theorem inS_few (cs : Array Value) (na ca ba : Option Addr) (nc cc bc N2 : Nat) (nm : List ByteArray) (ss : List Bs) (w : World) (HC : Hid (cs[6]? = some (.slice na nm.length nc) ∧ cs[7]? = some (.slice ca N2 cc) ∧ cs[8]? = some (.slice ba ss.length bc)))
    (HN : Hid (SRow w na nm)) (HS : Hid (BRow w ba ss)) (HSZ : Hid (∀ s, s ∈ nm → s.size ≤ 140737488351232)) (hle : nm.length + N2 + ss.length ≤ 300) :
    Calls Tryz.prog 12 #[.agg cs] w fun e w' => IsS nm N2 ss.length e ∧ Below w.heap.size w w' := by
  have HB : Hid (BxW w 38 cs (w.alloc (.cells cs 38))) := BxW.new _ _ _
  have HCX : Hid (∀ x, BxW w 38 cs x → x.cell? ⟨w.heap.size, 6, none⟩ = some (.slice na nm.length nc) ∧ x.cell? ⟨w.heap.size, 7, none⟩ = some (.slice ca N2 cc) ∧ x.cell? ⟨w.heap.size, 8, none⟩ = some (.slice ba ss.length bc)) := fun x hx => by
    rw [(box_at hx.box 6).1, (box_at hx.box 7).1, (box_at hx.box 8).1]; exact HC.out
  obtain ⟨c6, c7, c8⟩ := HCX.out _ HB.out
  obtain ⟨X0, HX0⟩ : ∃ X0 : Nat, Hid (nm.length + N2 + ss.length = X0) := ⟨_, rfl⟩
  have e1 : IntKind.i64.wrap ((nm.length : Int) + (N2 : Int)) = (nm.length : Int) + (N2 : Int) := by rw [IntKind.wrap_i64]; omega
  have e2 : IntKind.i64.wrap ((nm.length : Int) + (N2 : Int) + (ss.length : Int)) = (X0 : Int) := by have := HX0.out; rw [IntKind.wrap_i64]; omega
  have hgt : ¬ ((X0 : Int) > 300) := by have := HX0.out; omega
  have HLE : Hid (nm.length ≤ 300 ∧ N2 ≤ 300 ∧ ss.length ≤ 300) := ⟨by omega, by omega, by omega⟩
  clear HC hle HX0
  go_enter Tryz.func12, Tryz.ntmps12
  go_wp2
  clear e1 e2 hgt
  generalize (w.alloc (.cells cs 38)) = y at *
  have hl1 : nm.length ≤ 300 := HLE.out.1
  have hl2 : ss.length ≤ 300 := HLE.out.2.2
  go_loopw [3, 4] (fun nv iv wr => ∃ (kk x : Nat), kk ≤ nm.length ∧ iv = .int .i64 kk ∧ nv = .int .i64 (x : Int) ∧ Hid (x = X0 + nsum (nm.take kk)) ∧ wr = y) (fun _ iv _ => nm.length - (iof iv).toNat)
  case atStart => exact ⟨0, _, by omega, rfl, rfl, rfl, rfl⟩
  case round =>
    obtain ⟨kk, x, hk, rfl, rfl, HX, rfl⟩ := hrel
    by_cases hx : (x : Int) ≤ 30000
    · by_cases hlt : kk < nm.length
      · have hltI : (kk : Int) < (nm.length : Int) := by omega
        obtain ⟨b1, o1, rfl, y0⟩ := (SRow.below HN.out HB.out.bel) kk hlt
        have HT : Hid _ := nsum_take nm kk hlt
        have hsz : (nm.getD kk ⟨#[]⟩).size ≤ 140737488351232 := HSZ.out _ (by rw [List.getD_eq_getElem?_getD, List.getElem?_eq_getElem hlt]; exact List.getElem_mem hlt)
        generalize nm.getD kk ⟨#[]⟩ = r at *
        have f1 : IntKind.i64.wrap ((x : Int) + (r.size : Int)) = ((x + r.size : Nat) : Int) := by rw [IntKind.wrap_i64]; omega
        have HN2 : Hid (x + r.size = X0 + nsum (nm.take (kk + 1))) := by show _ = _; rw [HT.out, HX.out]; omega
        obtain ⟨U, HU⟩ : ∃ U : Nat, Hid (x + r.size = U) := ⟨_, rfl⟩
        rw [HU.out] at HN2 f1
        clear HU HT hsz
        go_wp2
        exact ⟨⟨kk + 1, U, by omega, by go_num, rfl, HN2.out, by trivial⟩, by simp [iof]; omega⟩
      · have hz : ¬ (kk : Int) < (nm.length : Int) := by omega
        have HNS : Hid (∀ s, s ∈ nm → s.size ≤ 30000) := fun s hs => by
          have q := HX.out
          rw [List.take_of_length_le (by omega)] at q
          have := nsum_mem hs
          omega
        clear hk hlt HX
        go_wp2
        clear hz
        go_loopw [3, 5] (fun nv iv wr => ∃ (kk : Nat) (x : Int), kk ≤ ss.length ∧ iv = .int .i64 kk ∧ nv = .int .i64 x ∧ BxW w 38 cs wr) (fun _ iv _ => ss.length - (iof iv).toNat)
        case atStart => exact ⟨0, _, by omega, rfl, rfl, HB.out⟩
        case round =>
          obtain ⟨k2, x2, hk2, rfl, rfl, hbx⟩ := hrel
          have HX : Hid (BxW w 38 cs wr) := hbx
          clear hbx c6 c7 c8
          obtain ⟨c6, c7, c8⟩ := HCX.out _ HX.out
          by_cases hgo : k2 < ss.length ∧ x2 ≤ 30000
          · obtain ⟨hlt, hx⟩ := hgo
            have hltI : (k2 : Int) < (ss.length : Int) := by omega
            obtain ⟨g1, o1, rfl, y0, y1, y2, y3, y4⟩ := (BCells.below HS.out.1 HX.out.bel) k2 hlt
            obtain ⟨r1, _, l1, _⟩ := (AllB.below HS.out.2 HX.out.bel) k2 hlt
            generalize (ss.getD k2 bsz).b.rs = rs at *
            generalize (ss.getD k2 bsz).a = a1 at *
            generalize (ss.getD k2 bsz).cap = c1 at *
            have HSM : Hid (Calls Tryz.prog 29 #[.slice a1 rs.length c1] wr fun e w' => IsB rs.length e ∧ Below wr.heap.size wr w') := small_any a1 c1 rs wr r1 l1
            have HR : Hid (RRow wr a1 rs) := r1
            have HY : Hid (wr.cell? ⟨g1, o1 + k2 * 5 + 4, none⟩ = some (.slice a1 rs.length c1)) := y4
            clear r1 l1 y0 y1 y2 y3
            go_wp2_with (go_at_call 29; refine (HSM.out).mono ?_; rintro e w1 ⟨⟨sm, rfl, hsm⟩, hb1⟩; have HX1 : Hid (BxW w 38 cs w1) := BxW.below HX.out hb1; have HR1 : Hid (RRow w1 a1 rs) := RRow.below HR.out hb1; clear c6 c7 c8 y4; obtain ⟨c6, c7, c8⟩ := HCX.out _ HX1.out; have y4 : w1.cell? ⟨g1, o1 + k2 * 5 + 4, none⟩ = some (.slice a1 rs.length c1) := (hb1.cell (World.block_lt_of_cell? _ _ HY.out)).trans HY.out; have HSM2 : Hid (sm = true → rs.length ≤ 300) := hsm; clear hb1 hsm HX HR HY HSM; cases sm)
            · go_ret
              exact ⟨⟨false, rfl, fun q => by cases q⟩, HX1.out.bel⟩
            · have hrl : rs.length ≤ 300 := HSM2.out (by trivial)
              go_loopw [3, 6] (fun nv iv wr => ∃ (j : Nat) (x : Int) (n : Nat), j ≤ rs.length ∧ iv = .int .i64 j ∧ nv = .int .i64 x ∧ wr = w1.drewN n) (fun _ iv _ => rs.length - (iof iv).toNat)
              case atStart => exact ⟨0, _, 0, by omega, rfl, rfl, rfl⟩
              case round =>
                obtain ⟨j, x3, n, hj, rfl, rfl, rfl⟩ := hrel
                by_cases hjt : j < rs.length
                · have hjI : (j : Int) < (rs.length : Int) := by omega
                  obtain ⟨b1, p1, rfl, u0, u1, u2, u3, u4, u5⟩ := HR1.out j hjt
                  clear HR1
                  generalize rs.getD j rz = r at *
                  go_wp2
                  go_quiet (fail)
                  go_wp2
                  exact ⟨⟨j + 1, _, n + nq, by omega, by go_num, rfl, by trivial⟩, by simp [iof]; omega⟩
                · go_wp2
                  exact ⟨⟨k2 + 1, _, by omega, by go_num, rfl, BxW.below HX1.out (below_drewN (Below.refl _ _) n)⟩, by simp [iof]; omega⟩
          · have hex : (¬ (k2 : Int) < (ss.length : Int)) ∨ ((k2 : Int) < (ss.length : Int) ∧ ¬ x2 ≤ 30000) := by omega
            clear hgo hk2
            rcases hex with hz | ⟨hz, hz2⟩
            all_goals
              go_wp2
              go_ret
              exact ⟨⟨_, rfl, fun _ => ⟨HLE.out.1, HLE.out.2.1, HLE.out.2.2, HNS.out⟩⟩, HX.out.bel⟩
    · clear HX
      by_cases hlt : (kk : Int) < (nm.length : Int)
      all_goals
        clear hk
        go_wp2
        clear hlt
        go_loopw [3, 5] (fun nv iv wr => iv = .int .i64 0 ∧ nv = .int .i64 (x : Int) ∧ BxW w 38 cs wr) (fun _ _ _ => 0)
        case atStart => exact ⟨rfl, rfl, HB.out⟩
        case round =>
          obtain ⟨rfl, rfl, hbx⟩ := hrel
          have HX : Hid (BxW w 38 cs _) := hbx
          clear hbx c6 c7 c8
          obtain ⟨c6, c7, c8⟩ := HCX.out _ HX.out
          by_cases hz : (0 : Int) < (ss.length : Int)
          all_goals
            go_wp2
            go_ret
            exact ⟨⟨_, rfl, fun q => by first | cases q | (exfalso; simp at q; omega)⟩, HX.out.bel⟩
theorem inS_any (k i d : Int) (b : Bd) (p : Pt) (w : World) (h : ResIn w k i d b p) :
    Calls Tryz.prog 12 #[.agg (rsc k i d b p)] w fun e w' => IsS (b 17).nm (b 18).ct.length (b 19).bs.length e ∧ Below w.heap.size w w' := by
  have e : (b 19).bs.length = p.bs.length := by rw [← h.r.bb, List.length_map]
  rw [e]
  by_cases hle : (b 17).nm.length + (b 18).ct.length + p.bs.length ≤ 300
  · exact inS_few (rsc k i d b p) p.na p.ca p.ba p.nc p.cc p.bc _ _ p.bs w ⟨rfl, rfl, rfl⟩ h.r.nm h.r.bs h.ne hle
  · exact inS_big (rsc k i d b p) p.na p.ca p.ba p.nc p.cc p.bc _ _ _ w ⟨rfl, rfl, rfl⟩ h.ln h.lc (by have := h.lb; rw [e] at this; exact this) (by omega)
end Go.Proofs.YtaooidckmepdeaaGreatDoor
namespace Go.Proofs.YtaooidckmepdeaaGreatDoor
set_option linter.unusedSimpArgs false
set_option linter.unusedVariables false
open Go.RowKit
/-- What is looked at. -/
structure LookS (B : Bd) : Prop where
  n : (B 17).nm.length ≤ 300
  c : (B 18).ct.length ≤ 300
  b : (B 19).bs.length ≤ 300
  s : ∀ s, s ∈ (B 17).nm → s.size ≤ 30000
set_option maxHeartbeats 800000 in
set_option maxRecDepth 100000 in
theorem resps_none (k0 i0 d0' : Int) (b0 : Bd) (p0' : Pt) (w : World) (ht : Tab w) (w0 : ResIn w k0 i0 d0' b0 p0') (hE : resE k0 i0 d0' b0 = none) : Calls Tryz.prog 4 #[.agg (rsc k0 i0 d0' b0 p0')] w fun e w' => e = .returned (.bool true) ∧ Below w.heap.size w w' := by
  have HA : Hid (∀ x, Tab x → Calls Tryz.prog 5 #[] x fun e w' => e = .returned (.bool true) ∧ Below x.heap.size x w') := fun x h => awake_any x h
  have HI : Hid (∀ x, Below w.heap.size w x → Calls Tryz.prog 12 #[.agg (rsc k0 i0 d0' b0 p0')] x fun e w' => (∃ r, e = .returned (.bool r) ∧ (r = true → LookS b0)) ∧ Below x.heap.size x w') := fun x hx => Calls.mono (inS_any _ _ _ _ _ x (w0.below hx)) (fun e w' q => ⟨by obtain ⟨⟨r, e1, h1⟩, _⟩ := q; exact ⟨r, e1, fun h => ⟨(h1 h).1, (h1 h).2.1, (h1 h).2.2.1, (h1 h).2.2.2⟩⟩, q.2⟩)
  have HQ : Hid (∀ x, Below w.heap.size w x → LookS b0 → Calls Tryz.prog 13 #[.agg (rsc k0 i0 d0' b0 p0')] x fun e w' => e = .returned (.tuple #[.slice none 0 0, .int .i64 1]) ∧ Below x.heap.size x w') := fun x hx hl => by
    have q := response_any k0 i0 d0' b0 p0' x w0.hk w0.hi w0.hd ⟨w0.v, w0.z, w0.r.z⟩ ((w0.below hx).r.ok (ht.below hx) w0.z w0.v (by have := hl.n; omega) (by have := hl.c; omega) (by have := hl.b; omega) (fun s hs => by have := hl.s s hs; omega))
    rw [hE] at q
    exact Calls.mono q (fun e w' h => EncP.none h)
  have HR : Hid (∀ x, Below w.heap.size w x → LookS b0 → Calls Tryz.prog 14 #[.agg (rsc k0 i0 d0' b0 p0')] x fun e w' => e = .returned (.tuple #[.slice none 0 0, .int .i64 1]) ∧ Below x.heap.size x w') := fun x hx hl => by
    have q := refRes_any k0 i0 d0' b0 p0' x w0.v w0.z (ht.below hx) (w0.below hx).r hl.n hl.c hl.b hl.s
    rw [hE] at q
    exact Calls.mono q (fun e w' h => EncP.none h)
  have HT : Hid (Tab w) := ht
  have HB : Hid (BxW w 38 (rsc k0 i0 d0' b0 p0') (w.alloc (.cells (rsc k0 i0 d0' b0 p0') 38))) := BxW.new _ _ _
  have HZ : Hid ((rsc k0 i0 d0' b0 p0').size = 9) := rfl
  have HBY : Hid (∀ x : World, Calls Tryz.prog 15 #[.slice none 0 0, .slice none 0 0] x fun e w' => e = .returned (.bool true) ∧ Below x.heap.size x w') := fun x => bytes_yes x none none 0 0 [] (Row.nil _ _) (Row.nil _ _) (by simp)
  clear ht w0 hE
  generalize (rsc k0 i0 d0' b0 p0') = cs at *
  go_enter Tryz.func4, Tryz.ntmps4
  go_wp2_with (first
    | (have _h := HB; refine wpList_load_row rfl 38 _ rfl w.heap.size rfl 38 cs (0, 0) _ HB.out.box Tryz.underlying38 rfl (by rw [HZ.out]; exact Tryz.info38) ?_; clear _h)
    | (go_at_call 12; refine (HI.out _ HB.out.bel).mono ?_; rintro e w1 ⟨⟨sm, rfl, hsm⟩, hb1⟩; have HB1 : Hid (BxW w 38 cs w1) := BxW.below HB.out hb1; clear HB; have HB : Hid (BxW w 38 cs w1) := HB1; have HSM : Hid (sm = true → LookS b0) := hsm; clear hsm hb1 HB1; cases sm)
    | (go_at_call 13; refine (HQ.out _ HB.out.bel (HSM.out (by trivial))).mono ?_; rintro e w2 ⟨rfl, hb2⟩; have HB2 : Hid (BxW w 38 cs w2) := BxW.below HB.out hb2; clear HB; have HB : Hid (BxW w 38 cs w2) := HB2; clear HB2; clear hb2)
    | (go_at_call 14; refine (HR.out _ HB.out.bel (HSM.out (by trivial))).mono ?_; rintro e w5 ⟨rfl, hb2⟩; have HB2 : Hid (BxW w 38 cs w5) := BxW.below HB.out hb2; clear HB; have HB : Hid (BxW w 38 cs w5) := HB2; clear HB2; clear hb2)
    | (go_at_call 15; refine (HBY.out _).mono ?_; rintro e w6 ⟨rfl, hb2⟩; have HB2 : Hid (BxW w 38 cs w6) := BxW.below HB.out hb2; clear HB; have HB : Hid (BxW w 38 cs w6) := HB2; clear HB2; clear hb2)
    | (go_at_call 5; refine (HA.out _ (HT.out.below HB.out.bel)).mono ?_; rintro e w3 ⟨rfl, hb3⟩; have HB3 : Hid (Below w.heap.size w w3) := HB.out.bel.trans (hb3.mono HB.out.bel.size); clear hb3))
  all_goals (go_ret; exact ⟨rfl, HB3.out⟩)
set_option maxHeartbeats 800000 in
set_option maxRecDepth 100000 in
theorem resps_some (k0 i0 d0' : Int) (b0 : Bd) (p0' : Pt) (L : List Nat) (w : World) (ht : Tab w) (w0 : ResIn w k0 i0 d0' b0 p0') (hE : resE k0 i0 d0' b0 = some L) : Calls Tryz.prog 4 #[.agg (rsc k0 i0 d0' b0 p0')] w fun e w' => e = .returned (.bool true) ∧ Below w.heap.size w w' := by
  have HA : Hid (∀ x, Tab x → Calls Tryz.prog 5 #[] x fun e w' => e = .returned (.bool true) ∧ Below x.heap.size x w') := fun x h => awake_any x h
  have HI : Hid (∀ x, Below w.heap.size w x → Calls Tryz.prog 12 #[.agg (rsc k0 i0 d0' b0 p0')] x fun e w' => (∃ r, e = .returned (.bool r) ∧ (r = true → LookS b0)) ∧ Below x.heap.size x w') := fun x hx => Calls.mono (inS_any _ _ _ _ _ x (w0.below hx)) (fun e w' q => ⟨by obtain ⟨⟨r, e1, h1⟩, _⟩ := q; exact ⟨r, e1, fun h => ⟨(h1 h).1, (h1 h).2.1, (h1 h).2.2.1, (h1 h).2.2.2⟩⟩, q.2⟩)
  have HQ : Hid (∀ x, Below w.heap.size w x → LookS b0 → Calls Tryz.prog 13 #[.agg (rsc k0 i0 d0' b0 p0')] x fun e w' => (∃ a c, e = .returned (.tuple #[.slice a L.length c, .int .i64 0]) ∧ BOk w' a c L) ∧ Below x.heap.size x w') := fun x hx hl => by
    have q := response_any k0 i0 d0' b0 p0' x w0.hk w0.hi w0.hd ⟨w0.v, w0.z, w0.r.z⟩ ((w0.below hx).r.ok (ht.below hx) w0.z w0.v (by have := hl.n; omega) (by have := hl.c; omega) (by have := hl.b; omega) (fun s hs => by have := hl.s s hs; omega))
    rw [hE] at q
    refine Calls.mono q (fun e w' h => ?_)
    obtain ⟨a, c, e1, r, b⟩ := EncP.some2 h
    exact ⟨⟨a, c, e1, r⟩, b⟩
  have HR : Hid (∀ x, Below w.heap.size w x → LookS b0 → Calls Tryz.prog 14 #[.agg (rsc k0 i0 d0' b0 p0')] x fun e w' => (∃ a c, e = .returned (.tuple #[.slice a L.length c, .int .i64 0]) ∧ BOk w' a c L) ∧ Below x.heap.size x w') := fun x hx hl => by
    have q := refRes_any k0 i0 d0' b0 p0' x w0.v w0.z (ht.below hx) (w0.below hx).r hl.n hl.c hl.b hl.s
    rw [hE] at q
    refine Calls.mono q (fun e w' h => ?_)
    obtain ⟨a, c, e1, r, b⟩ := EncP.some2 h
    exact ⟨⟨a, c, e1, r⟩, b⟩
  have HT : Hid (Tab w) := ht
  have HB : Hid (BxW w 38 (rsc k0 i0 d0' b0 p0') (w.alloc (.cells (rsc k0 i0 d0' b0 p0') 38))) := BxW.new _ _ _
  have HZ : Hid ((rsc k0 i0 d0' b0 p0').size = 9) := rfl
  have HBY : Hid (∀ x p k' q j, BOk x p k' L → BOk x q j L → Calls Tryz.prog 15 #[.slice p L.length k', .slice q L.length j] x fun e w' => e = .returned (.bool true) ∧ Below x.heap.size x w') := fun x p k' q j h1 h2 => bytes_yes x p q k' j L h1.row h2.row h1.big
  clear ht w0 hE
  generalize (rsc k0 i0 d0' b0 p0') = cs at *
  go_enter Tryz.func4, Tryz.ntmps4
  go_wp2_with (first
    | (have _h := HB; refine wpList_load_row rfl 38 _ rfl w.heap.size rfl 38 cs (0, 0) _ HB.out.box Tryz.underlying38 rfl (by rw [HZ.out]; exact Tryz.info38) ?_; clear _h)
    | (go_at_call 12; refine (HI.out _ HB.out.bel).mono ?_; rintro e w1 ⟨⟨sm, rfl, hsm⟩, hb1⟩; have HB1 : Hid (BxW w 38 cs w1) := BxW.below HB.out hb1; clear HB; have HB : Hid (BxW w 38 cs w1) := HB1; have HSM : Hid (sm = true → LookS b0) := hsm; clear hsm hb1 HB1; cases sm)
    | (go_at_call 13; refine (HQ.out _ HB.out.bel (HSM.out (by trivial))).mono ?_; rintro e w2 ⟨⟨a2, c2, rfl, hk2⟩, hb2⟩; have HB2 : Hid (BxW w 38 cs w2) := BxW.below HB.out hb2; clear HB; have HB : Hid (BxW w 38 cs w2) := HB2; clear HB2; have HK : Hid (BOk w2 a2 c2 L) := hk2; clear hk2 hb2)
    | (go_at_call 14; refine (HR.out _ HB.out.bel (HSM.out (by trivial))).mono ?_; rintro e w5 ⟨⟨a5, c5, rfl, hk5⟩, hb2⟩; have HB2 : Hid (BxW w 38 cs w5) := BxW.below HB.out hb2; clear HB; have HB : Hid (BxW w 38 cs w5) := HB2; clear HB2; have HK2 : Hid (BOk w5 a2 c2 L) := ⟨HK.out.row.below hb2, HK.out.len, HK.out.cap, HK.out.nil, HK.out.big⟩; have HK5 : Hid (BOk w5 a5 c5 L) := hk5; clear hk5 hb2)
    | (go_at_call 15; refine (HBY.out _ _ _ _ _ HK2.out HK5.out).mono ?_; rintro e w6 ⟨rfl, hb2⟩; have HB2 : Hid (BxW w 38 cs w6) := BxW.below HB.out hb2; clear HB; have HB : Hid (BxW w 38 cs w6) := HB2; clear HB2; clear hb2)
    | (go_at_call 5; refine (HA.out _ (HT.out.below HB.out.bel)).mono ?_; rintro e w3 ⟨rfl, hb3⟩; have HB3 : Hid (Below w.heap.size w w3) := HB.out.bel.trans (hb3.mono HB.out.bel.size); clear hb3))
  all_goals (go_ret; exact ⟨rfl, HB3.out⟩)
theorem codecResponses_walk (k0 i0 d0' : Int) (b0 : Bd) (p0' : Pt) (w : World) (ht : Tab w) (w0 : ResIn w k0 i0 d0' b0 p0') : Calls Tryz.prog 4 #[.agg (rsc k0 i0 d0' b0 p0')] w fun e w' => e = .returned (.bool true) ∧ Below w.heap.size w w' := by
  cases hE : resE k0 i0 d0' b0 with
  | none => exact resps_none _ _ _ _ _ w ht w0 hE
  | some L => exact resps_some _ _ _ _ _ L w ht w0 hE
end Go.Proofs.YtaooidckmepdeaaGreatDoor
