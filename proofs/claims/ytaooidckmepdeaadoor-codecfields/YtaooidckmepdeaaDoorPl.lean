/- The document's Request, the walk. -/
import Derived.Test.YtaooidckmepdeaaDoorPk
namespace Go.Proofs.YtaooidckmepdeaaDoor
set_option linter.unusedSimpArgs false
set_option linter.unusedVariables false
open Go.RowKit
set_option maxHeartbeats 1000000 in
set_option maxRecDepth 100000 in
theorem rq_yes (kn im : Nat) (b : Bd) (c : Bool) (ra : Option Addr) (rc : Nat) (w : World) (hb : RqB b c) (ht : ∀ g, (b g).t.size ≤ 200000) (hl : (b 11).rs.length ≤ 300) (hr : RRow w ra (b 11).rs) (hrs : ∀ r, r ∈ (b 11).rs → In64 r.t ∧ r.k.size ≤ 100000 ∧ r.v.size ≤ 100000)
    (h1 : ¬ (kn : Int) < 1) (h2 : ¬ (kn : Int) > 8) (h3 : ¬ (im : Int) < 0) (h4 : ¬ (im : Int) > 4294967295) (r : List Nat) (hrow : rowQ (kn : Int) = some r) (st : Nat → Ls) (hst : ∀ j, st j = oa (some ([kn] ++ lay 4 im)) (eFs b (r.take j))) (R : Bool) (hR : R = true ↔ moreB b r = false) (SX : Ls) (HSX : Hid (SX = if R = true then st r.length else none)) :
    Calls Tryd.prog 12 #[.agg (rqc (kn : Int) (im : Int) b c ra rc)] w (EncP SX w) := by
  have HR0 : Hid (RRow w ra (b 11).rs) := hr
  have KA : Hid (∀ x : World, (Instr.alloc 71 true (.tuple #[])).run Tryd.prog x = .ok (.pointer (some ⟨x.heap.size, 0, none⟩)) (x.alloc (.cells zbg 71))) := run_alloc71
  have KB : Hid (∀ x : World, (Instr.build 71 #[(0, .int .i64 (kn : Int)), (1, .int .i64 (im : Int))]).run Tryd.prog x = .ok (.agg (gbc (kn : Int) (im : Int) (fun _ => ⟨#[]⟩) (fun _ => 0) false (.slice none 0 0) (.slice none 0 0) (.slice none 0 0) (.slice none 0 0))) x) := run_build71b (kn : Int) (im : Int)
  have HBG : Hid (∀ x, Calls Tryd.prog 27 #[.agg (rqc (kn : Int) (im : Int) b c ra rc)] x fun e w' => e = .returned (.agg (gbc (kn : Int) (im : Int) (fun f => (b f).t) (bn b) c (.slice ra (b 11).rs.length rc) (.slice none 0 0) (.slice none 0 0) (.slice none 0 0))) ∧ Below x.heap.size x w') := fun x => bag_any (kn : Int) (im : Int) b c ra rc hb x
  have HRW : Hid (∀ x, Calls Tryd.prog 28 #[.int .i64 (kn : Int), .bool false] x (RwP r x)) := fun x => by
    have q := rowsQ_any (kn : Int) (by omega) (by omega) x
    rw [hrow] at q
    exact q
  have HF1 : Hid ((gbc (kn : Int) (im : Int) (fun f => (b f).t) (bn b) c (.slice ra (b 11).rs.length rc) (.slice none 0 0) (.slice none 0 0) (.slice none 0 0)).size = 29) := gbc_size _ _ _ _ _ _ _ _ _
  have HF2 : Hid ((gbc (kn : Int) (im : Int) (fun f => (b f).t) (bn b) c (.slice ra (b 11).rs.length rc) (.slice none 0 0) (.slice none 0 0) (.slice none 0 0)).all (·.oneCell') = true) := gbc_one _ _ _ _ _ _ _ _ _ _ _ _ _ _ _ _ _
  have HCT : Hid (∀ g, g < 2 → (gbc (kn : Int) (im : Int) (fun f => (b f).t) (bn b) c (.slice ra (b 11).rs.length rc) (.slice none 0 0) (.slice none 0 0) (.slice none 0 0))[2 + g]? = some (.string (b g).t)) := fun g hg => gbc_t _ _ _ _ _ _ _ _ _ g hg
  have HCN : Hid (∀ g, g < 20 → (gbc (kn : Int) (im : Int) (fun f => (b f).t) (bn b) c (.slice ra (b 11).rs.length rc) (.slice none 0 0) (.slice none 0 0) (.slice none 0 0))[4 + g]? = some (.int .i64 (bn b g))) := fun g hg => gbc_n _ _ _ _ _ _ _ _ _ g hg
  have HCC : Hid ((gbc (kn : Int) (im : Int) (fun f => (b f).t) (bn b) c (.slice ra (b 11).rs.length rc) (.slice none 0 0) (.slice none 0 0) (.slice none 0 0))[24]? = some (.bool c) ∧ (gbc (kn : Int) (im : Int) (fun f => (b f).t) (bn b) c (.slice ra (b 11).rs.length rc) (.slice none 0 0) (.slice none 0 0) (.slice none 0 0))[25]? = some (.slice ra (b 11).rs.length rc)) := ⟨(gbc_r ..).1, (gbc_r ..).2.1⟩
  have HF29 : Hid ((gbc (kn : Int) (im : Int) (fun f => (b f).t) (bn b) c (.slice ra (b 11).rs.length rc) (.slice none 0 0) (.slice none 0 0) (.slice none 0 0)).size = 29) := gbc_size _ _ _ _ _ _ _ _ _
  have HG1 : Hid ((gbc (kn : Int) (im : Int) (fun _ => ⟨#[]⟩) (fun _ => 0) false (.slice none 0 0) (.slice none 0 0) (.slice none 0 0) (.slice none 0 0)).size = 29) := gbc_size _ _ _ _ _ _ _ _ _
  have HG2 : Hid ((gbc (kn : Int) (im : Int) (fun _ => ⟨#[]⟩) (fun _ => 0) false (.slice none 0 0) (.slice none 0 0) (.slice none 0 0) (.slice none 0 0)).all (·.oneCell') = true) := gbc_one _ _ _ _ _ _ _ _ _ _ _ _ _ _ _ _ _
  have HZS : Hid (zbg.size = 29) := gbc_size _ _ _ _ _ _ _ _ _
  have HQC : Hid (∀ x : World, x.heap[w.heap.size]? = some (.cells (rqc (kn : Int) (im : Int) b c ra rc) 26 (0, 0)) → x.cell? ⟨w.heap.size, 0, none⟩ = some (.int .i64 (kn : Int)) ∧ x.cell? ⟨w.heap.size, 1, none⟩ = some (.int .i64 (im : Int))) := fun x hx => ⟨(rq_box hx).1, (rq_box hx).2.1⟩
  have HX0 : Hid ((w.alloc (.cells (rqc (kn : Int) (im : Int) b c ra rc) 26)).heap[w.heap.size]? = some (.cells (rqc (kn : Int) (im : Int) b c ra rc) 26 (0, 0))) := heap_alloc_new w _
  have HBW : Hid (Below w.heap.size w (w.alloc (.cells (rqc (kn : Int) (im : Int) b c ra rc) 26))) := below_box _
  have HQ17 : Hid ((rqc (kn : Int) (im : Int) b c ra rc).size = 17) := rfl
  obtain ⟨c0, c1⟩ := HQC.out _ HX0.out
  -- what the loop and the end want
  have HFD : Hid (∀ x P s M f, f ≤ 14 → M ≤ 1000000000 → PnS w P x s M → Calls Tryd.prog 30 #[(.pointer (some ⟨P, 0, none⟩)), .agg #[.int .i64 (wh f), .int .i64 (f : Int)], .agg (gbc (kn : Int) (im : Int) (fun f => (b f).t) (bn b) c (.slice ra (b 11).rs.length rc) (.slice none 0 0) (.slice none 0 0) (.slice none 0 0))] x (PP w P x (oa s (eK (kd f) (b f))) (M + 60400000))) := fun x P s M f q1 q2 q3 => pfield_any w x P s M f (kn : Int) (im : Int) b c ra rc hb q1 q2 ht hl HR0.out hrs q3
  have HUB : Hid (∀ x, Calls Tryd.prog 31 #[.agg (gmx (kn : Int) (im : Int) b c (.slice ra (b 11).rs.length rc) r)] x fun e w' => (∃ cs, e = .returned (.agg cs) ∧ ∀ y, Below w.heap.size w y → Calls Tryd.prog 16 #[.agg cs, .agg (rqc (kn : Int) (im : Int) b c ra rc)] y fun e w' => e = .returned (.bool R) ∧ Below y.heap.size y w') ∧ Below x.heap.size x w') := fun x => by
    obtain ⟨ra', rc', e1, e2, e3⟩ := rqx_mix (kn : Int) (im : Int) b c ra rc r
    have q := unbag_any (kn : Int) (im : Int) (fun f => (bmix b r f).t) (bn (bmix b r)) (cmix c r) ra' (bmix b r 11).rs.length rc' (.slice none 0 0) (.slice none 0 0) (.slice none 0 0) x
    rw [← e1, e2] at q
    refine Calls.mono q ?_
    rintro e w' ⟨rfl, hb'⟩
    refine ⟨⟨_, rfl, fun y hy => ?_⟩, hb'⟩
    have hrr : RRow y ra' (bmix b r 11).rs := by
      by_cases h11 : 11 ∈ r
      · rw [e3 h11]; simp only [bmix, h11, if_true]; exact HR0.out.below hy
      · simp only [bmix, h11, if_false]; intro j hj; cases hj
    have hl2 : (bmix b r 11).rs.length ≤ maxLen := by
      unfold bmix maxLen
      split
      · omega
      · simp [fz]
    refine Calls.mono (sameQ_any (kn : Int) (im : Int) (kn : Int) (im : Int) (bmix b r) b (cmix c r) c ra' ra rc' rc y hrr (HR0.out.below hy) hl2) ?_
    rintro e w' ⟨⟨R', rfl, hR'⟩, hb2⟩
    have : R' = R := by
      rw [Bool.eq_iff_iff, hR', mix_same hb, hR]
    exact ⟨by rw [this], hb2⟩
  have HG0 : Hid ((gbc (kn : Int) (im : Int) (fun _ => ⟨#[]⟩) (fun _ => 0) false (.slice none 0 0) (.slice none 0 0) (.slice none 0 0) (.slice none 0 0)) = gmx (kn : Int) (im : Int) b c (.slice ra (b 11).rs.length rc) []) := (gmx_nil (kn : Int) (im : Int) b c (.slice ra (b 11).rs.length rc)).symm
  have hk8 : IntKind.u8.wrap (kn : Int) = (kn : Int) := by rw [IntKind.wrap_u8]; omega
  have hi64 : IntKind.u64.wrap (im : Int) = (im : Int) := by rw [IntKind.wrap_u64]; omega
  have HKN : Hid (kn < 256 ∧ im ≤ 18446744073709551615) := ⟨by omega, by omega⟩
  have HLEN : Hid (r.length ≤ 7) := by have := @rowQ_len (kn : Int); rw [hrow] at this; exact this
  have HROW : Hid (∀ f, f ∈ r → f ≤ 14) := fun f hf => by
    by_cases q : f ≤ 14
    · exact q
    · exact absurd hf (rowQ_low hrow f (by omega))
  have HPA : Hid ((b 0).n = 0 ∧ (b 1).n = 0 ∧ (b 11).n = 0) := ⟨hb.v.parts.1, hb.v.parts.2.1, hb.v.parts.2.2.1⟩
  have HST : Hid (∀ j, st j = oa (some ([kn] ++ lay 4 im)) (eFs b (r.take j))) := hst
  clear hr hrs ht hl hb hrow hst hR
  have tokA : True := trivial
  generalize (gbc (kn : Int) (im : Int) (fun f => (b f).t) (bn b) c (.slice ra (b 11).rs.length rc) (.slice none 0 0) (.slice none 0 0) (.slice none 0 0)) = CSF at *
  generalize zbg = ZB at *
  generalize hg0 : (gbc (kn : Int) (im : Int) (fun _ => ⟨#[]⟩) (fun _ => 0) false (.slice none 0 0) (.slice none 0 0) (.slice none 0 0) (.slice none 0 0)) = CS0 at *
  clear hg0
  go_enter Tryd.func12, Tryd.ntmps12
  go_upto_region 6 with (first
    | (have _h := tokA; refine wpList_load_row rfl 26 _ rfl w.heap.size rfl 26 (rqc (kn : Int) (im : Int) b c ra rc) (0, 0) _ (by exact HX0.out) Tryd.underlying26 rfl (by rw [HQ17.out]; exact Tryd.info26) ?_; clear _h tokA)
    | (go_at_call 27; refine (HBG.out _).mono ?_; rintro e w1 ⟨rfl, hb9⟩; have HX1 : Hid (w1.heap[w.heap.size]? = some (.cells (rqc (kn : Int) (im : Int) b c ra rc) 26 (0, 0))) := box_keep' HX0.out hb9; have HB1 : Hid (Below w.heap.size w w1) := HBW.out.trans (hb9.mono HBW.out.size); clear hb9 c0 c1; have tokB : True := trivial)
    | (have _h := tokB; refine wpList_allocZ KA.out rfl rfl w1.heap.size (by rfl) ?_; clear _h tokB; have tokC : True := trivial; simp only [Act.put, List.setIfInBounds_toArray, List.set_cons_zero, List.set_cons_succ])
    | (have _h := tokC; refine wpList_store_row rfl 71 _ _ rfl w1.heap.size CSF rfl rfl 71 ZB (by exact heap_alloc_new w1 _) (by rw [HF1.out]; exact Tryd.info71) (by rw [HF1.out]; exact HZS.out) HF2.out ?_; obtain ⟨hx9, hb9⟩ := box_new w1 ZB CSF 71; generalize World.setRow _ w1.heap.size CSF = w2 at *; have HX2 : Hid (w2.heap[w.heap.size]? = some (.cells (rqc (kn : Int) (im : Int) b c ra rc) 26 (0, 0))) := box_keep' HX1.out hb9; have HF4 : Hid (w2.heap[w1.heap.size]? = some (.cells CSF 71 (0, 0))) := hx9; have HB2 : Hid (Below w.heap.size w w2) := HB1.out.trans (hb9.mono HB1.out.size); have HS2 : Hid (w1.heap.size < w2.heap.size) := (Array.getElem?_eq_some_iff.1 hx9).1; obtain ⟨c0, c1⟩ := HQC.out _ HX2.out; clear hx9 hb9; clear _h tokC; have tokD : True := trivial)
    | (have _h := tokD; refine wpList_buildZ (parts := #[(0, .tmp 30), (1, .tmp 32)]) KB.out rfl rfl (by rfl) ?_; clear _h tokD; have tokE : True := trivial; simp only [Act.put, List.setIfInBounds_toArray, List.set_cons_zero, List.set_cons_succ])
    | (have _h := tokE; refine wpList_allocZ KA.out rfl rfl w2.heap.size (by rfl) ?_; clear _h tokE; have tokF : True := trivial; simp only [Act.put, List.setIfInBounds_toArray, List.set_cons_zero, List.set_cons_succ])
    | (have _h := tokF; refine wpList_store_row rfl 71 _ _ rfl w2.heap.size CS0 rfl rfl 71 ZB (by exact heap_alloc_new w2 _) (by rw [HG1.out]; exact Tryd.info71) (by rw [HG1.out]; exact HZS.out) HG2.out ?_; obtain ⟨hx9, hb9⟩ := box_new w2 ZB CS0 71; generalize World.setRow _ w2.heap.size CS0 = w3 at *; have HX3 : Hid (w3.heap[w.heap.size]? = some (.cells (rqc (kn : Int) (im : Int) b c ra rc) 26 (0, 0))) := box_keep' HX2.out hb9; have HF43 : Hid (w3.heap[w1.heap.size]? = some (.cells CSF 71 (0, 0))) := box_keep' HF4.out hb9; have HF5 : Hid (w3.heap[w2.heap.size]? = some (.cells CS0 71 (0, 0))) := hx9; have HB3 : Hid (Below w.heap.size w w3) := HB2.out.trans (hb9.mono HB2.out.size); clear c0 c1; obtain ⟨c0, c1⟩ := HQC.out _ HX3.out; clear hx9 hb9; clear _h tokF; have tokG : True := trivial)
    | (go_at_call 28; refine (HRW.out _).mono ?_; rintro e w4 ⟨⟨ga, gc, rfl, hw⟩, hb9⟩; have HWB : Hid (WBox w4 ga r) := hw; have HX4 : Hid (w4.heap[w.heap.size]? = some (.cells (rqc (kn : Int) (im : Int) b c ra rc) 26 (0, 0))) := box_keep' HX3.out hb9; have HF44 : Hid (w4.heap[w1.heap.size]? = some (.cells CSF 71 (0, 0))) := box_keep' HF43.out hb9; have HF54 : Hid (w4.heap[w2.heap.size]? = some (.cells CS0 71 (0, 0))) := box_keep' HF5.out hb9; have HB4 : Hid (Below w.heap.size w w4) := HB3.out.trans (hb9.mono HB3.out.size); clear c0 c1; obtain ⟨c0, c1⟩ := HQC.out _ HX4.out; clear hw hb9 tokG))
  go_cut [7] from 37 to 47 (fun s7 wc => ∃ P, s7 = .pointer (some ⟨P, 0, none⟩) ∧ RQS w w1.heap.size w2.heap.size P (rqc (kn : Int) (im : Int) b c ra rc) CSF CS0 ga r (some ([kn] ++ lay 4 im)) 5 wc)
  case first =>
    have HP1 : Hid (∀ x v3 l3 c3, Below w4.drew.heap.size w4.drew x → x.ownsRow w4.drew.heap.size 5 1 (.slice v3 l3 c3) 5 (cv ([kn] ++ lay 4 im)) → l3 = 5 → RQS w w1.heap.size w2.heap.size x.heap.size (rqc (kn : Int) (im : Int) b c ra rc) CSF CS0 ga r (some ([kn] ++ lay 4 im)) 5 (x.alloc (.cells #[.slice v3 l3 c3, .bool false] 79))) := fun x v3 l3 c3 hx ho e3 => by
      subst e3
      have bx : Below w4.heap.size w4 x := (below_drew w4).trans hx
      have b2 : Below w4.heap.size w4 (x.alloc (.cells #[.slice v3 5 c3, .bool false] 79)) := bx.trans ((below_box _).mono bx.size)
      have hby : Byt ([kn] ++ lay 4 im) := Byt.app (fun q hq => by simp at hq; have := HKN.out.1; omega) (lay_byt 4 _)
      refine ⟨box_keep' HX4.out b2, box_keep' HF44.out b2, box_keep' HF54.out b2, WBox.keep HWB.out (fun g cs hg => box_keep' hg b2), ⟨⟨_, [kn] ++ lay 4 im, heap_alloc_new x _, ?_, hby, by simp [lay_len], fun L e => by injection e⟩, HB4.out.trans (b2.mono HB4.out.size), Nat.le_trans HB4.out.size bx.size⟩⟩
      have h5 : ([kn] ++ lay 4 im).length = 5 := by simp [lay_len]
      rw [h5]
      exact own_down (own_any ho (below_box _)) HB4.out.size
    have hS0 : w4.drew.cell? ⟨w.heap.size, 0, none⟩ = some (.int .i64 (kn : Int)) ∧ w4.drew.cell? ⟨w.heap.size, 1, none⟩ = some (.int .i64 (im : Int)) := ⟨c0, c1⟩
    have HSB : Hid (∀ x, Below w4.drew.heap.size w4.drew x → x.cell? ⟨w.heap.size, 0, none⟩ = some (.int .i64 (kn : Int)) ∧ x.cell? ⟨w.heap.size, 1, none⟩ = some (.int .i64 (im : Int))) := fun x hx => HQC.out x (box_keep' HX4.out ((below_drew w4).trans hx))
    have HONE : Hid (∀ x : World, (x.alloc (.cells #[.int .u8 (kn : Int)] 5)).ownsRow x.heap.size 5 1 (.slice (some ⟨x.heap.size, 0, none⟩) 1 1) 1 (cv [kn])) := fun x => ⟨rfl, .inr ⟨x.heap.size, 1, _, rfl, Nat.le_refl _, heap_alloc_new x _, Nat.le_refl _, by unfold maxLen; omega, rfl, rfl⟩⟩
    have HNIL : Hid (∀ (x : World) B, x.ownsRow B 5 1 (.slice none 0 0) ([] : List Nat).length (cv [])) := fun x B => ⟨rfl, .inl ⟨rfl, rfl⟩⟩
    have hlay : lay 4 im = [] ++ lay 4 im := rfl
    have HLY : Hid (∀ x : World, Calls Tryd.prog 29 #[.slice none 0 0, .int .i64 4, .int .u64 (im : Int)] x (LayP x x.heap.size (lay 4 im) x)) := fun x => lay_any (.slice none 0 0) [] 4 im x x x.heap.size (HNIL.out x _) (Below.refl _ _) (Nat.le_refl _) (by simp) (by decide) HKN.out.2
    have HL4 : Hid (([kn] ++ lay 4 im).length = 5 ∧ (lay 4 im).length = 4) := ⟨by simp [lay_len], lay_len _ _⟩
    clear c0 c1 hlay
    refine wp_region_lat (fun y : World => y.cell? ⟨w.heap.size, 0, none⟩ = some (.int .i64 (kn : Int)) ∧ y.cell? ⟨w.heap.size, 1, none⟩ = some (.int .i64 (im : Int))) 11 (by kernel_rfl) hS0 (fun hHeld => ?_)
    generalize w4.drew = z at *
    refine lat_take 0 (v := ?_) rfl (by kernel_rfl) (by kernel_rfl) (by kernel_rfl) (by kernel_rfl) (fun _ _ _ h => h) (by rfl) ?_ (by assumption) ?_
    rotate_left
    · (intro y hSy; (try dsimp only at hSy); (try obtain ⟨q0, q1⟩ := hSy); go_simp <;> with_reducible rfl)
    try simp only [Act.put, List.setIfInBounds_toArray, List.set_cons_zero, List.set_cons_succ]
    refine lat_take 1 (v := ?_) rfl (by kernel_rfl) (by kernel_rfl) (by kernel_rfl) (by kernel_rfl) (fun _ _ _ h => h) (by rfl) ?_ (by assumption) ?_
    rotate_left
    · (intro y hSy; (try dsimp only at hSy); (try obtain ⟨q0, q1⟩ := hSy); go_simp <;> with_reducible rfl)
    try simp only [Act.put, List.setIfInBounds_toArray, List.set_cons_zero, List.set_cons_succ]
    refine lat_take 2 (v := ?_) rfl (by kernel_rfl) (by kernel_rfl) (by kernel_rfl) (by kernel_rfl) (fun _ _ _ h => h) (by rfl) ?_ (by assumption) ?_
    rotate_left
    · (intro y hSy; (try dsimp only at hSy); (try obtain ⟨q0, q1⟩ := hSy); go_simp <;> with_reducible rfl)
    try simp only [Act.put, List.setIfInBounds_toArray, List.set_cons_zero, List.set_cons_succ]
    refine lat_take 4 (v := ?_) rfl (by kernel_rfl) (by kernel_rfl) (by kernel_rfl) (by kernel_rfl) (fun _ _ _ h => h) (by rfl) ?_ (by assumption) ?_
    rotate_left
    · (intro y hSy; (try dsimp only at hSy); (try obtain ⟨q0, q1⟩ := hSy); go_simp <;> with_reducible rfl)
    try simp only [Act.put, List.setIfInBounds_toArray, List.set_cons_zero, List.set_cons_succ]
    refine lat_take 5 (v := ?_) rfl (by kernel_rfl) (by kernel_rfl) (by kernel_rfl) (by kernel_rfl) (fun _ _ _ h => h) (by rfl) ?_ (by assumption) ?_
    rotate_left
    · (intro y hSy; (try dsimp only at hSy); (try obtain ⟨q0, q1⟩ := hSy); go_simp <;> with_reducible rfl)
    try simp only [Act.put, List.setIfInBounds_toArray, List.set_cons_zero, List.set_cons_succ]
    refine lat_take 6 (v := ?_) rfl (by kernel_rfl) (by kernel_rfl) (by kernel_rfl) (by kernel_rfl) (fun _ _ _ h => h) (by rfl) ?_ (by assumption) ?_
    rotate_left
    · (intro y hSy; (try dsimp only at hSy); (try obtain ⟨q0, q1⟩ := hSy); go_simp <;> with_reducible rfl)
    try simp only [Act.put, List.setIfInBounds_toArray, List.set_cons_zero, List.set_cons_succ]
    refine lat_two 3 7 rfl rfl (by kernel_rfl) (by decide) (by decide) (by rfl) (by rfl) (fun K hK => ?_) (fun K hK => ?_)
    · go_simp
      try dsimp only
      have hz1 : Below z.heap.size z (z.alloc (.cells #[.int .u8 (kn : Int)] 5)) := below_box _
      refine hK.out _ _ (HSB.out _ hz1) (fun hH1 => ?_)
      clear hK
      try simp only [Act.put, List.setIfInBounds_toArray, List.set_cons_zero, List.set_cons_succ]
      have ho1 := HONE.out z
      generalize z.alloc (.cells #[.int .u8 (kn : Int)] 5) = z1 at *
      refine lat_one 7 rfl (by kernel_rfl) (by decide) (by rfl) (fun K hK => ?_)
      go_simp
      refine Calls.mono (HLY.out z1) ?_
      rintro e w5 ⟨v2, rfl, ho2, hb2, _⟩
      obtain ⟨a2, c2, rfl, hr2, hn2⟩ := owns_sl ho2 (lt_mem (lay_byt 4 _))
      have hb5 : Below z.heap.size z w5 := hz1.trans (hb2.mono hz1.size)
      refine hK.out _ _ (HSB.out _ hb5) (fun hH2 => ?_)
      clear hK
      try simp only [Act.put, List.setIfInBounds_toArray, List.set_cons_zero, List.set_cons_succ]
      refine lat_one 8 rfl (by kernel_rfl) (by decide) (by rfl) (fun K hK => ?_)
      refine wp_append_row _ _ rfl z.heap.size z _ _ _ rfl (own_any ho1 hb2) hb5 hb5.size a2 c2 (lay 4 im) (by rw [HL4.out.2]; rfl) hr2 hn2 (by rw [HL4.out.2]; omega) ?_
      intro v6 w6 hown6 hb6
      rw [HL4.out.2] at hown6
      obtain ⟨a6, c6, rfl⟩ : ∃ a6 c6, v6 = .slice a6 5 c6 := by
        rcases hown6.2 with ⟨e, h0⟩ | ⟨g, cap, cur, e, _⟩
        · cases h0
        · exact ⟨_, _, e⟩
      refine hK.out _ _ (HSB.out _ hb6) (fun hH3 => ?_)
      clear hK
      try simp only [Act.put, List.setIfInBounds_toArray, List.set_cons_zero, List.set_cons_succ]
      refine lat_take 9 (v := ?_) rfl (by kernel_rfl) (by kernel_rfl) (by kernel_rfl) (by kernel_rfl) (fun _ _ _ h => h) (by rfl) ?_ (by assumption) ?_
      rotate_left
      · (intro y hSy; (try dsimp only at hSy); (try obtain ⟨q0, q1⟩ := hSy); go_simp <;> with_reducible rfl)
      try simp only [Act.put, List.setIfInBounds_toArray, List.set_cons_zero, List.set_cons_succ]
      refine lat_one 10 rfl (by kernel_rfl) (by decide) (by rfl) (fun K hK => ?_)
      go_simp
      try dsimp only
      refine hK.out _ _ (HSB.out _ (hb6.trans ((below_box _).mono hb6.size))) (fun hH4 => ?_)
      clear hK
      try simp only [Act.put, List.setIfInBounds_toArray, List.set_cons_zero, List.set_cons_succ]
      refine lat_last 11 rfl (by kernel_rfl) (by decide) (by kernel_rfl) (by rfl) (fun K hK => ?_)
      go_simp
      try dsimp only
      refine hK.out _ _ ?_
      clear hK
      try simp only [Act.put, List.setIfInBounds_toArray, List.set_cons_zero, List.set_cons_succ]
      have hQ6 := HP1.out w6 _ _ _ hb6 hown6 rfl
      go_wp2_with fail
      go_meet
      exact ⟨_, rfl, hQ6⟩
    · go_simp
      refine Calls.mono (HLY.out z) ?_
      rintro e w5 ⟨v2, rfl, ho2, hb5, _⟩
      obtain ⟨a2, c2, rfl, hr2, hn2⟩ := owns_sl ho2 (lt_mem (lay_byt 4 _))
      refine hK.out _ _ (HSB.out _ hb5) (fun hH1 => ?_)
      clear hK
      try simp only [Act.put, List.setIfInBounds_toArray, List.set_cons_zero, List.set_cons_succ]
      refine lat_one 3 rfl (by kernel_rfl) (by decide) (by rfl) (fun K hK => ?_)
      go_simp
      try dsimp only
      have hz1 : Below z.heap.size z (w5.alloc (.cells #[.int .u8 (kn : Int)] 5)) := hb5.trans ((below_box _).mono hb5.size)
      have hr3 := hr2.below (below_box (w := w5) (.cells #[.int .u8 (kn : Int)] 5))
      have ho1 := own_down (HONE.out w5) hb5.size
      refine hK.out _ _ (HSB.out _ hz1) (fun hH2 => ?_)
      clear hK
      try simp only [Act.put, List.setIfInBounds_toArray, List.set_cons_zero, List.set_cons_succ]
      generalize w5.alloc (.cells #[.int .u8 (kn : Int)] 5) = z1 at *
      refine lat_one 8 rfl (by kernel_rfl) (by decide) (by rfl) (fun K hK => ?_)
      refine wp_append_row _ _ rfl z.heap.size z _ _ _ rfl ho1 hz1 hz1.size a2 c2 (lay 4 im) (by rw [HL4.out.2]; rfl) hr3 hn2 (by rw [HL4.out.2]; omega) ?_
      intro v6 w6 hown6 hb6
      rw [HL4.out.2] at hown6
      obtain ⟨a6, c6, rfl⟩ : ∃ a6 c6, v6 = .slice a6 5 c6 := by
        rcases hown6.2 with ⟨e, h0⟩ | ⟨g, cap, cur, e, _⟩
        · cases h0
        · exact ⟨_, _, e⟩
      refine hK.out _ _ (HSB.out _ hb6) (fun hH3 => ?_)
      clear hK
      try simp only [Act.put, List.setIfInBounds_toArray, List.set_cons_zero, List.set_cons_succ]
      refine lat_take 9 (v := ?_) rfl (by kernel_rfl) (by kernel_rfl) (by kernel_rfl) (by kernel_rfl) (fun _ _ _ h => h) (by rfl) ?_ (by assumption) ?_
      rotate_left
      · (intro y hSy; (try dsimp only at hSy); (try obtain ⟨q0, q1⟩ := hSy); go_simp <;> with_reducible rfl)
      try simp only [Act.put, List.setIfInBounds_toArray, List.set_cons_zero, List.set_cons_succ]
      refine lat_one 10 rfl (by kernel_rfl) (by decide) (by rfl) (fun K hK => ?_)
      go_simp
      try dsimp only
      refine hK.out _ _ (HSB.out _ (hb6.trans ((below_box _).mono hb6.size))) (fun hH4 => ?_)
      clear hK
      try simp only [Act.put, List.setIfInBounds_toArray, List.set_cons_zero, List.set_cons_succ]
      refine lat_last 11 rfl (by kernel_rfl) (by decide) (by kernel_rfl) (by rfl) (fun K hK => ?_)
      go_simp
      try dsimp only
      refine hK.out _ _ ?_
      clear hK
      try simp only [Act.put, List.setIfInBounds_toArray, List.set_cons_zero, List.set_cons_succ]
      have hQ6 := HP1.out w6 _ _ _ hb6 hown6 rfl
      go_wp2_with fail
      go_meet
      exact ⟨_, rfl, hQ6⟩
  case rest =>
    obtain ⟨P, rfl, hQ⟩ := hcut
    have HQ0 : Hid (RQS w w1.heap.size w2.heap.size P (rqc (kn : Int) (im : Int) b c ra rc) CSF (gmx (kn : Int) (im : Int) b c (.slice ra (b 11).rs.length rc) (r.take 0)) ga r (st 0) (5 + 0 * 60400000) wc) := by
      have e0 : st 0 = some ([kn] ++ lay 4 im) := by rw [HST.out 0]; simp [eFs, oa_nil]
      rw [e0, List.take_zero, ← HG0.out]
      exact hQ
    have H45 : Hid (w1.heap.size ≠ w2.heap.size ∧ w.heap.size < w2.heap.size) := ⟨by have := HS2.out; omega, by have := HS2.out; have := HB1.out.size; omega⟩
    clear hQ HX0 HBW HX1 HX2 HX3 HX4 HF4 HF43 HF44 HF5 HF54 HB2 HB3 HB4 HWB HBG HRW KA KB HF1 HF2 HG1 HG2 HG0 HZS HR0 HKN
    try clear c0 c1
    go_wp2_with fail
    go_loopw [8] (fun iv wr => ∃ jj : Nat, jj ≤ r.length ∧ iv = .int .i64 jj ∧ RQS w w1.heap.size w2.heap.size P (rqc (kn : Int) (im : Int) b c ra rc) CSF (gmx (kn : Int) (im : Int) b c (.slice ra (b 11).rs.length rc) (r.take jj)) ga r (st jj) (5 + jj * 60400000) wr) (fun iv _ => r.length - (iof iv).toNat)
    case atStart => exact ⟨0, by omega, rfl, HQ0.out⟩
    case round =>
      obtain ⟨jj, hjj, rfl, hQ⟩ := hrel
      have HQ : Hid (RQS w w1.heap.size w2.heap.size P (rqc (kn : Int) (im : Int) b c ra rc) CSF (gmx (kn : Int) (im : Int) b c (.slice ra (b 11).rs.length rc) (r.take jj)) ga r (st jj) (5 + jj * 60400000) wr) := hQ
      clear hQ HQ0
      have hl7 := HLEN.out
      by_cases hlt : jj < r.length
      · have hltI : (jj : Int) < (r.length : Int) := by omega
        obtain ⟨f, HFE⟩ : ∃ f, Hid (r.getD jj 0 = f) := ⟨_, rfl⟩
        have hfm : f ∈ r := by rw [← HFE.out, List.getD_eq_getElem?_getD, List.getElem?_eq_getElem hlt]; exact List.getElem_mem hlt
        have HF14 : Hid (f ≤ 14) := HROW.out f hfm
        have HTK : Hid (r.take (jj + 1) = r.take jj ++ [f]) := by
          show _ = _
          rw [List.take_succ_eq_append_getElem hlt, ← HFE.out, List.getD_eq_getElem?_getD, List.getElem?_eq_getElem hlt]
          rfl
        have HSN : Hid (st (jj + 1) = oa (st jj) (eK (kd f) (b f))) := by
          show _ = _
          rw [HST.out, HST.out, HTK.out, eFs_snoc, oa_assoc]
        obtain ⟨g, gcs, rfl, hgb, hgc⟩ : ∃ g cs, ga = some ⟨g, 0, none⟩ ∧ wr.heap[g]? = some (.cells cs 82 (0, 0)) ∧ ∀ j, j < r.length → cs[j * 2]? = some (.int .i64 (wh (r.getD j 0))) ∧ cs[j * 2 + 1]? = some (.int .i64 ((r.getD j 0 : Nat) : Int)) := by
          rcases HQ.out.hr with e | q
          · rw [e] at hlt; cases hlt
          · exact q
        obtain ⟨hc1, hc2⟩ := hgc jj hlt
        rw [HFE.out] at hc1 hc2
        have HGB : Hid (∀ x : World, x.heap[g]? = some (.cells gcs 82 (0, 0)) → x.cell? ⟨g, jj * 2, none⟩ = some (.int .i64 (wh f)) ∧ x.cell? ⟨g, jj * 2 + 1, none⟩ = some (.int .i64 (f : Int))) := fun x hx => ⟨by rw [(box_at hx _).1]; exact hc1, by rw [(box_at hx _).1]; exact hc2⟩
        have HGW : Hid (wr.heap[g]? = some (.cells gcs 82 (0, 0))) := hgb
        clear hc1 hc2 hgc hgb
        have HQD : Hid (RQS w w1.heap.size w2.heap.size P (rqc (kn : Int) (im : Int) b c ra rc) CSF (gmx (kn : Int) (im : Int) b c (.slice ra (b 11).rs.length rc) (r.take jj)) (some ⟨g, 0, none⟩) r (st jj) (5 + jj * 60400000) wr.drew) := RQS.below HQ.out (below_drew _)
        have HCL : Hid (Calls Tryd.prog 30 #[(.pointer (some ⟨P, 0, none⟩)), .agg #[.int .i64 (wh f), .int .i64 (f : Int)], .agg CSF] wr.drew (PP w P wr.drew (oa (st jj) (eK (kd f) (b f))) (5 + jj * 60400000 + 60400000))) := HFD.out _ P _ _ f HF14.out (by omega) HQD.out.pen
        have HKG : Hid (∀ x, KeepT P wr.drew x → x.heap[g]? = some (.cells gcs 82 (0, 0))) := fun x hx => by
          obtain ⟨v0, l0, hx0, _⟩ := HQD.out.pen.ex
          refine KeepT.box hx (show wr.drew.heap[g]? = _ from HGW.out) ?_ (by decide)
          rintro rfl
          rw [show wr.drew.heap[g]? = _ from HGW.out] at hx0
          injection hx0 with hx0
          injection hx0 with _ hx0 _
          exact absurd hx0 (by decide)
        obtain ⟨d0, d1⟩ := HGB.out wr.drew HGW.out
        have hS0 : (wr.drew.cell? ⟨g, jj * 2, none⟩ = some (.int .i64 (wh f)) ∧ wr.drew.cell? ⟨g, jj * 2 + 1, none⟩ = some (.int .i64 (f : Int))) ∧ wr.drew.heap[w1.heap.size]? = some (.cells CSF 71 (0, 0)) := ⟨⟨d0, d1⟩, HQD.out.h4⟩
        clear d0 d1
        go_wp2_with fail
        refine wp_region_lat (fun y : World => (y.cell? ⟨g, jj * 2, none⟩ = some (.int .i64 (wh f)) ∧ y.cell? ⟨g, jj * 2 + 1, none⟩ = some (.int .i64 (f : Int))) ∧ y.heap[w1.heap.size]? = some (.cells CSF 71 (0, 0))) 6 (by kernel_rfl) hS0 (fun hHeld => ?_)
        refine lat_take 0 (v := ?_) rfl (by kernel_rfl) (by kernel_rfl) (by kernel_rfl) (by kernel_rfl) (fun _ _ _ h => h) (by rfl) ?_ (by assumption) ?_
        rotate_left
        · (intro y hSy; (try dsimp only at hSy); (try obtain ⟨⟨q0, q1⟩, q2⟩ := hSy); go_simp <;> with_reducible rfl)
        try simp only [Act.put, List.setIfInBounds_toArray, List.set_cons_zero, List.set_cons_succ]
        refine lat_take 1 (v := ?_) rfl (by kernel_rfl) (by kernel_rfl) (by kernel_rfl) (by kernel_rfl) (fun _ _ _ h => h) (by rfl) ?_ (by assumption) ?_
        rotate_left
        · (intro y hSy; (try dsimp only at hSy); (try obtain ⟨⟨q0, q1⟩, q2⟩ := hSy); go_simp <;> with_reducible rfl)
        try simp only [Act.put, List.setIfInBounds_toArray, List.set_cons_zero, List.set_cons_succ]
        refine lat_take 2 (v := ?_) rfl (by kernel_rfl) (by kernel_rfl) (by kernel_rfl) (by kernel_rfl) (fun _ _ _ h => h) (by rfl) ?_ (by assumption) ?_
        rotate_left
        · (intro y hSy; (try dsimp only at hSy); (try obtain ⟨⟨q0, q1⟩, q2⟩ := hSy); go_simp <;> with_reducible rfl)
        try simp only [Act.put, List.setIfInBounds_toArray, List.set_cons_zero, List.set_cons_succ]
        refine lat_take 3 (v := ?_) rfl (by kernel_rfl) (by kernel_rfl) (by kernel_rfl) (by kernel_rfl) (fun _ _ _ h => h) (by rfl) ?_ (by assumption) ?_
        rotate_left
        · (intro y hSy; (try dsimp only at hSy); (try obtain ⟨⟨q0, q1⟩, q2⟩ := hSy); go_simp <;> with_reducible rfl)
        try simp only [Act.put, List.setIfInBounds_toArray, List.set_cons_zero, List.set_cons_succ]
        refine lat_take 4 (v := ?_) rfl (by kernel_rfl) (by kernel_rfl) (by kernel_rfl) (by kernel_rfl) (fun _ _ _ h => h) (by rfl) ?_ (by assumption) ?_
        rotate_left
        · (intro y hSy; (try dsimp only at hSy); (try obtain ⟨⟨q0, q1⟩, q2⟩ := hSy); go_simp <;> with_reducible rfl)
        try simp only [Act.put, List.setIfInBounds_toArray, List.set_cons_zero, List.set_cons_succ]
        refine lat_box 5 rfl (by kernel_rfl) (by kernel_rfl) (by kernel_rfl) (by kernel_rfl) 71 _ rfl w1.heap.size CSF (fun _ _ _ h => h) (by rfl) rfl 71 _ (fun y hy => hy.2) Tryd.underlying71 rfl (by rw [HF29.out]; exact Tryd.info71) (by assumption) ?_
        try simp only [Act.put, List.setIfInBounds_toArray, List.set_cons_zero, List.set_cons_succ]
        refine lat_last 6 rfl (by kernel_rfl) (by decide) (by kernel_rfl) (by rfl) (fun K hK => ?_)
        go_simp
        refine Calls.mono HCL.out ?_
        rintro e x1 ⟨rfl, hp1, hk1⟩
        have HQ1 : Hid (RQS w w1.heap.size w2.heap.size P (rqc (kn : Int) (im : Int) b c ra rc) CSF (gmx (kn : Int) (im : Int) b c (.slice ra (b 11).rs.length rc) (r.take jj)) (some ⟨g, 0, none⟩) r (st (jj + 1)) (5 + (jj + 1) * 60400000) x1) := RQS.pens HQD.out hk1 (by rw [HSN.out]; exact hp1.mono (by omega))
        have HG1 : Hid (x1.heap[g]? = some (.cells gcs 82 (0, 0))) := HKG.out x1 hk1
        try dsimp only
        refine hK.out _ _ ?_
        clear hK hp1 hk1
        try simp only [Act.put, List.setIfInBounds_toArray, List.set_cons_zero, List.set_cons_succ]
        obtain ⟨d0, d1⟩ := HGB.out x1 HG1.out
        have hf14 := HF14.out
        rcases (show f < 2 ∨ f = 7 ∨ f = 11 ∨ (2 ≤ f ∧ f ≠ 7 ∧ f ≠ 11) by omega) with hf | hf | hf | ⟨hf, hf7, hf11⟩
        · have hw : wh f = 1 := by rcases (show f = 0 ∨ f = 1 by omega) with rfl | rfl <;> rfl
          have hn0 : (b f).n = 0 := by rcases (show f = 0 ∨ f = 1 by omega) with rfl | rfl; exact HPA.out.1; exact HPA.out.2.1
          have HN0 : Hid ((b f).n = 0) := hn0
          have HT4 : Hid (CSF[2 + f]? = some (.string (b f).t)) := HCT.out f hf
          have hfI : (f : Int) < 2 := by omega
          rw [hw] at d0
          clear hn0
          obtain ⟨e0, e1⟩ : x1.drew.cell? ⟨w1.heap.size, 2 + f, none⟩ = some (.string (b f).t) ∧ ∃ u, x1.drew.cell? ⟨w2.heap.size, 2 + f, none⟩ = some u := ⟨(by rw [(box_at (show x1.drew.heap[w1.heap.size]? = _ from HQ1.out.h4) (2 + f)).1]; exact HT4.out), ⟨_, (by rw [(box_at (show x1.drew.heap[w2.heap.size]? = _ from HQ1.out.h5) (2 + f)).1]; exact gbc_t _ _ _ _ _ _ _ _ _ f hf)⟩⟩
          obtain ⟨u5, e1⟩ := e1
          have g1 : x1.drew.frozen? ⟨w2.heap.size, 2 + f, none⟩ = false := (box_at (show x1.drew.heap[w2.heap.size]? = _ from HQ1.out.h5) (2 + f)).2
          have HQE : Hid (RQS w w1.heap.size w2.heap.size P (rqc (kn : Int) (im : Int) b c ra rc) CSF ((gmx (kn : Int) (im : Int) b c (.slice ra (b 11).rs.length rc) (r.take jj)).setIfInBounds (2 + f) (.string (b f).t)) (some ⟨g, 0, none⟩) r (st (jj + 1)) (5 + (jj + 1) * 60400000) (x1.drew.setCell ⟨w2.heap.size, 2 + f, none⟩ (.string (b f).t))) := RQS.put (RQS.below HQ1.out (below_drew _)) H45.out.1 H45.out.2 _ _
          have hS1 : x1.drew.cell? ⟨g, jj * 2 + 1, none⟩ = some (.int .i64 (f : Int)) ∧ x1.drew.cell? ⟨w1.heap.size, 2 + f, none⟩ = some (.string (b f).t) := ⟨d1, e0⟩
          go_wp2_with fail
          clear d0 d1 e0
          refine wp_region_lat (fun y : World => y.cell? ⟨g, jj * 2 + 1, none⟩ = some (.int .i64 (f : Int)) ∧ y.cell? ⟨w1.heap.size, 2 + f, none⟩ = some (.string (b f).t)) 15 (by kernel_rfl) hS1 (fun hHeld2 => ?_)
          generalize x1.drew = z at *
          refine lat_take 0 (v := ?_) rfl (by kernel_rfl) (by kernel_rfl) (by kernel_rfl) (by kernel_rfl) (fun _ _ _ h => h) (by rfl) ?_ (by assumption) ?_
          rotate_left
          · (intro y hSy; (try dsimp only at hSy); (try obtain ⟨q0, q1⟩ := hSy); go_simp <;> with_reducible rfl)
          try simp only [Act.put, List.setIfInBounds_toArray, List.set_cons_zero, List.set_cons_succ]
          refine lat_take 1 (v := ?_) rfl (by kernel_rfl) (by kernel_rfl) (by kernel_rfl) (by kernel_rfl) (fun _ _ _ h => h) (by rfl) ?_ (by assumption) ?_
          rotate_left
          · (intro y hSy; (try dsimp only at hSy); (try obtain ⟨q0, q1⟩ := hSy); go_simp <;> with_reducible rfl)
          try simp only [Act.put, List.setIfInBounds_toArray, List.set_cons_zero, List.set_cons_succ]
          refine lat_take 2 (v := ?_) rfl (by kernel_rfl) (by kernel_rfl) (by kernel_rfl) (by kernel_rfl) (fun _ _ _ h => h) (by rfl) ?_ (by assumption) ?_
          rotate_left
          · (intro y hSy; (try dsimp only at hSy); (try obtain ⟨q0, q1⟩ := hSy); go_simp <;> with_reducible rfl)
          try simp only [Act.put, List.setIfInBounds_toArray, List.set_cons_zero, List.set_cons_succ]
          refine lat_take 3 (v := ?_) rfl (by kernel_rfl) (by kernel_rfl) (by kernel_rfl) (by kernel_rfl) (fun _ _ _ h => h) (by rfl) ?_ (by assumption) ?_
          rotate_left
          · (intro y hSy; (try dsimp only at hSy); (try obtain ⟨q0, q1⟩ := hSy); go_simp <;> with_reducible rfl)
          try simp only [Act.put, List.setIfInBounds_toArray, List.set_cons_zero, List.set_cons_succ]
          refine lat_take 4 (v := ?_) rfl (by kernel_rfl) (by kernel_rfl) (by kernel_rfl) (by kernel_rfl) (fun _ _ _ h => h) (by rfl) ?_ (by assumption) ?_
          rotate_left
          · (intro y hSy; (try dsimp only at hSy); (try obtain ⟨q0, q1⟩ := hSy); go_simp <;> with_reducible rfl)
          try simp only [Act.put, List.setIfInBounds_toArray, List.set_cons_zero, List.set_cons_succ]
          refine lat_take 5 (v := ?_) rfl (by kernel_rfl) (by kernel_rfl) (by kernel_rfl) (by kernel_rfl) (fun _ _ _ h => h) (by rfl) ?_ (by assumption) ?_
          rotate_left
          · (intro y hSy; (try dsimp only at hSy); (try obtain ⟨q0, q1⟩ := hSy); go_simp <;> with_reducible rfl)
          try simp only [Act.put, List.setIfInBounds_toArray, List.set_cons_zero, List.set_cons_succ]
          refine lat_take 6 (v := ?_) rfl (by kernel_rfl) (by kernel_rfl) (by kernel_rfl) (by kernel_rfl) (fun _ _ _ h => h) (by rfl) ?_ (by assumption) ?_
          rotate_left
          · (intro y hSy; (try dsimp only at hSy); (try obtain ⟨q0, q1⟩ := hSy); go_simp <;> with_reducible rfl)
          try simp only [Act.put, List.setIfInBounds_toArray, List.set_cons_zero, List.set_cons_succ]
          refine lat_take 7 (v := ?_) rfl (by kernel_rfl) (by kernel_rfl) (by kernel_rfl) (by kernel_rfl) (fun _ _ _ h => h) (by rfl) ?_ (by assumption) ?_
          rotate_left
          · (intro y hSy; (try dsimp only at hSy); (try obtain ⟨q0, q1⟩ := hSy); go_simp <;> with_reducible rfl)
          try simp only [Act.put, List.setIfInBounds_toArray, List.set_cons_zero, List.set_cons_succ]
          refine lat_take 8 (v := ?_) rfl (by kernel_rfl) (by kernel_rfl) (by kernel_rfl) (by kernel_rfl) (fun _ _ _ h => h) (by rfl) ?_ (by assumption) ?_
          rotate_left
          · (intro y hSy; (try dsimp only at hSy); (try obtain ⟨q0, q1⟩ := hSy); go_simp <;> with_reducible rfl)
          try simp only [Act.put, List.setIfInBounds_toArray, List.set_cons_zero, List.set_cons_succ]
          refine lat_take 9 (v := ?_) rfl (by kernel_rfl) (by kernel_rfl) (by kernel_rfl) (by kernel_rfl) (fun _ _ _ h => h) (by rfl) ?_ (by assumption) ?_
          rotate_left
          · (intro y hSy; (try dsimp only at hSy); (try obtain ⟨q0, q1⟩ := hSy); go_simp <;> with_reducible rfl)
          try simp only [Act.put, List.setIfInBounds_toArray, List.set_cons_zero, List.set_cons_succ]
          refine lat_take 10 (v := ?_) rfl (by kernel_rfl) (by kernel_rfl) (by kernel_rfl) (by kernel_rfl) (fun _ _ _ h => h) (by rfl) ?_ (by assumption) ?_
          rotate_left
          · (intro y hSy; (try dsimp only at hSy); (try obtain ⟨q0, q1⟩ := hSy); go_simp <;> with_reducible rfl)
          try simp only [Act.put, List.setIfInBounds_toArray, List.set_cons_zero, List.set_cons_succ]
          refine lat_take 11 (v := ?_) rfl (by kernel_rfl) (by kernel_rfl) (by kernel_rfl) (by kernel_rfl) (fun _ _ _ h => h) (by rfl) ?_ (by assumption) ?_
          rotate_left
          · (intro y hSy; (try dsimp only at hSy); (try obtain ⟨q0, q1⟩ := hSy); go_simp <;> with_reducible rfl)
          try simp only [Act.put, List.setIfInBounds_toArray, List.set_cons_zero, List.set_cons_succ]
          refine lat_take 12 (v := ?_) rfl (by kernel_rfl) (by kernel_rfl) (by kernel_rfl) (by kernel_rfl) (fun _ _ _ h => h) (by rfl) ?_ (by assumption) ?_
          rotate_left
          · (intro y hSy; (try dsimp only at hSy); (try obtain ⟨q0, q1⟩ := hSy); go_simp <;> with_reducible rfl)
          try simp only [Act.put, List.setIfInBounds_toArray, List.set_cons_zero, List.set_cons_succ]
          refine lat_take 13 (v := ?_) rfl (by kernel_rfl) (by kernel_rfl) (by kernel_rfl) (by kernel_rfl) (fun _ _ _ h => h) (by rfl) ?_ (by assumption) ?_
          rotate_left
          · (intro y hSy; (try dsimp only at hSy); (try obtain ⟨q0, q1⟩ := hSy); go_simp <;> with_reducible rfl)
          try simp only [Act.put, List.setIfInBounds_toArray, List.set_cons_zero, List.set_cons_succ]
          refine lat_take 14 (v := ?_) rfl (by kernel_rfl) (by kernel_rfl) (by kernel_rfl) (by kernel_rfl) (fun _ _ _ h => h) (by rfl) ?_ (by assumption) ?_
          rotate_left
          · (intro y hSy; (try dsimp only at hSy); (try obtain ⟨q0, q1⟩ := hSy); go_simp <;> with_reducible rfl)
          try simp only [Act.put, List.setIfInBounds_toArray, List.set_cons_zero, List.set_cons_succ]
          refine lat_last 15 rfl (by kernel_rfl) (by decide) (by kernel_rfl) (by rfl) (fun K hK => ?_)
          go_simp
          try dsimp only
          refine hK.out _ _ ?_
          clear hK
          try simp only [Act.put, List.setIfInBounds_toArray, List.set_cons_zero, List.set_cons_succ]
          go_wp2_with fail
          exact ⟨⟨jj + 1, by omega, by go_num, by rw [HTK.out, ← gmx_text kn im b c (.slice ra (b 11).rs.length rc) (r.take jj) f (by omega) HN0.out]; exact HQE.out⟩, by simp [iof]; omega⟩
        · subst hf
          have hw : wh 7 = 3 := rfl
          rw [hw] at d0
          have e0 : x1.cell? ⟨w1.heap.size, 24, none⟩ = some (.bool c) := by rw [(box_at HQ1.out.h4 24).1]; exact HCC.out.1
          obtain ⟨u5, e1⟩ : ∃ u, x1.cell? ⟨w2.heap.size, 24, none⟩ = some u := ⟨_, by rw [(box_at HQ1.out.h5 24).1]; exact (gbc_r ..).1⟩
          have g1 : x1.frozen? ⟨w2.heap.size, 24, none⟩ = false := (box_at HQ1.out.h5 24).2
          have HQE : Hid _ := RQS.put HQ1.out H45.out.1 H45.out.2 24 (.bool c)
          go_wp2_with fail
          exact ⟨⟨jj + 1, by omega, by go_num, by rw [HTK.out, ← gmx_flag]; exact HQE.out⟩, by simp [iof]; omega⟩
        · subst hf
          have hw : wh 11 = 4 := rfl
          rw [hw] at d0
          have e0 : x1.cell? ⟨w1.heap.size, 25, none⟩ = some (.slice ra (b 11).rs.length rc) := by rw [(box_at HQ1.out.h4 25).1]; exact HCC.out.2
          obtain ⟨u5, e1⟩ : ∃ u, x1.cell? ⟨w2.heap.size, 25, none⟩ = some u := ⟨_, by rw [(box_at HQ1.out.h5 25).1]; exact (gbc_r ..).2.1⟩
          have g1 : x1.frozen? ⟨w2.heap.size, 25, none⟩ = false := (box_at HQ1.out.h5 25).2
          have HQE : Hid _ := RQS.put HQ1.out H45.out.1 H45.out.2 25 (.slice ra (b 11).rs.length rc)
          go_wp2_with fail
          exact ⟨⟨jj + 1, by omega, by go_num, by rw [HTK.out, ← gmx_recs kn im b c (.slice ra (b 11).rs.length rc) (r.take jj) HPA.out.2.2]; exact HQE.out⟩, by simp [iof]; omega⟩
        · have hw : wh f = 2 := by
            have : kd f = 0 := by unfold kd; rw [if_neg (by omega), if_neg hf7, if_neg hf11, if_neg (by omega), if_neg (by omega), if_neg (by omega)]
            unfold wh; rw [this]; rfl
          have HT4 : Hid (CSF[4 + f]? = some (.int .i64 (bn b f))) := HCN.out f (by omega)
          have HFF : Hid (2 ≤ f ∧ f ≠ 7 ∧ f ≠ 11) := ⟨hf, hf7, hf11⟩
          have hfI : (f : Int) < 20 := by omega
          rw [hw] at d0
          obtain ⟨e0, e1⟩ : x1.drew.cell? ⟨w1.heap.size, 4 + f, none⟩ = some (.int .i64 (bn b f)) ∧ ∃ u, x1.drew.cell? ⟨w2.heap.size, 4 + f, none⟩ = some u := ⟨(by rw [(box_at (show x1.drew.heap[w1.heap.size]? = _ from HQ1.out.h4) (4 + f)).1]; exact HT4.out), ⟨_, (by rw [(box_at (show x1.drew.heap[w2.heap.size]? = _ from HQ1.out.h5) (4 + f)).1]; exact gbc_n _ _ _ _ _ _ _ _ _ f (by omega))⟩⟩
          obtain ⟨u5, e1⟩ := e1
          have g1 : x1.drew.frozen? ⟨w2.heap.size, 4 + f, none⟩ = false := (box_at (show x1.drew.heap[w2.heap.size]? = _ from HQ1.out.h5) (4 + f)).2
          have HQE : Hid (RQS w w1.heap.size w2.heap.size P (rqc (kn : Int) (im : Int) b c ra rc) CSF ((gmx (kn : Int) (im : Int) b c (.slice ra (b 11).rs.length rc) (r.take jj)).setIfInBounds (4 + f) (.int .i64 (bn b f))) (some ⟨g, 0, none⟩) r (st (jj + 1)) (5 + (jj + 1) * 60400000) (x1.drew.setCell ⟨w2.heap.size, 4 + f, none⟩ (.int .i64 (bn b f)))) := RQS.put (RQS.below HQ1.out (below_drew _)) H45.out.1 H45.out.2 _ _
          have hS1 : x1.drew.cell? ⟨g, jj * 2 + 1, none⟩ = some (.int .i64 (f : Int)) ∧ x1.drew.cell? ⟨w1.heap.size, 4 + f, none⟩ = some (.int .i64 (bn b f)) := ⟨d1, e0⟩
          go_wp2_with fail
          clear d0 d1 e0
          refine wp_region_lat (fun y : World => y.cell? ⟨g, jj * 2 + 1, none⟩ = some (.int .i64 (f : Int)) ∧ y.cell? ⟨w1.heap.size, 4 + f, none⟩ = some (.int .i64 (bn b f))) 15 (by kernel_rfl) hS1 (fun hHeld2 => ?_)
          generalize x1.drew = z at *
          refine lat_take 0 (v := ?_) rfl (by kernel_rfl) (by kernel_rfl) (by kernel_rfl) (by kernel_rfl) (fun _ _ _ h => h) (by rfl) ?_ (by assumption) ?_
          rotate_left
          · (intro y hSy; (try dsimp only at hSy); (try obtain ⟨q0, q1⟩ := hSy); go_simp <;> with_reducible rfl)
          try simp only [Act.put, List.setIfInBounds_toArray, List.set_cons_zero, List.set_cons_succ]
          refine lat_take 1 (v := ?_) rfl (by kernel_rfl) (by kernel_rfl) (by kernel_rfl) (by kernel_rfl) (fun _ _ _ h => h) (by rfl) ?_ (by assumption) ?_
          rotate_left
          · (intro y hSy; (try dsimp only at hSy); (try obtain ⟨q0, q1⟩ := hSy); go_simp <;> with_reducible rfl)
          try simp only [Act.put, List.setIfInBounds_toArray, List.set_cons_zero, List.set_cons_succ]
          refine lat_take 2 (v := ?_) rfl (by kernel_rfl) (by kernel_rfl) (by kernel_rfl) (by kernel_rfl) (fun _ _ _ h => h) (by rfl) ?_ (by assumption) ?_
          rotate_left
          · (intro y hSy; (try dsimp only at hSy); (try obtain ⟨q0, q1⟩ := hSy); go_simp <;> with_reducible rfl)
          try simp only [Act.put, List.setIfInBounds_toArray, List.set_cons_zero, List.set_cons_succ]
          refine lat_take 3 (v := ?_) rfl (by kernel_rfl) (by kernel_rfl) (by kernel_rfl) (by kernel_rfl) (fun _ _ _ h => h) (by rfl) ?_ (by assumption) ?_
          rotate_left
          · (intro y hSy; (try dsimp only at hSy); (try obtain ⟨q0, q1⟩ := hSy); go_simp <;> with_reducible rfl)
          try simp only [Act.put, List.setIfInBounds_toArray, List.set_cons_zero, List.set_cons_succ]
          refine lat_take 4 (v := ?_) rfl (by kernel_rfl) (by kernel_rfl) (by kernel_rfl) (by kernel_rfl) (fun _ _ _ h => h) (by rfl) ?_ (by assumption) ?_
          rotate_left
          · (intro y hSy; (try dsimp only at hSy); (try obtain ⟨q0, q1⟩ := hSy); go_simp <;> with_reducible rfl)
          try simp only [Act.put, List.setIfInBounds_toArray, List.set_cons_zero, List.set_cons_succ]
          refine lat_take 5 (v := ?_) rfl (by kernel_rfl) (by kernel_rfl) (by kernel_rfl) (by kernel_rfl) (fun _ _ _ h => h) (by rfl) ?_ (by assumption) ?_
          rotate_left
          · (intro y hSy; (try dsimp only at hSy); (try obtain ⟨q0, q1⟩ := hSy); go_simp <;> with_reducible rfl)
          try simp only [Act.put, List.setIfInBounds_toArray, List.set_cons_zero, List.set_cons_succ]
          refine lat_take 6 (v := ?_) rfl (by kernel_rfl) (by kernel_rfl) (by kernel_rfl) (by kernel_rfl) (fun _ _ _ h => h) (by rfl) ?_ (by assumption) ?_
          rotate_left
          · (intro y hSy; (try dsimp only at hSy); (try obtain ⟨q0, q1⟩ := hSy); go_simp <;> with_reducible rfl)
          try simp only [Act.put, List.setIfInBounds_toArray, List.set_cons_zero, List.set_cons_succ]
          refine lat_take 7 (v := ?_) rfl (by kernel_rfl) (by kernel_rfl) (by kernel_rfl) (by kernel_rfl) (fun _ _ _ h => h) (by rfl) ?_ (by assumption) ?_
          rotate_left
          · (intro y hSy; (try dsimp only at hSy); (try obtain ⟨q0, q1⟩ := hSy); go_simp <;> with_reducible rfl)
          try simp only [Act.put, List.setIfInBounds_toArray, List.set_cons_zero, List.set_cons_succ]
          refine lat_take 8 (v := ?_) rfl (by kernel_rfl) (by kernel_rfl) (by kernel_rfl) (by kernel_rfl) (fun _ _ _ h => h) (by rfl) ?_ (by assumption) ?_
          rotate_left
          · (intro y hSy; (try dsimp only at hSy); (try obtain ⟨q0, q1⟩ := hSy); go_simp <;> with_reducible rfl)
          try simp only [Act.put, List.setIfInBounds_toArray, List.set_cons_zero, List.set_cons_succ]
          refine lat_take 9 (v := ?_) rfl (by kernel_rfl) (by kernel_rfl) (by kernel_rfl) (by kernel_rfl) (fun _ _ _ h => h) (by rfl) ?_ (by assumption) ?_
          rotate_left
          · (intro y hSy; (try dsimp only at hSy); (try obtain ⟨q0, q1⟩ := hSy); go_simp <;> with_reducible rfl)
          try simp only [Act.put, List.setIfInBounds_toArray, List.set_cons_zero, List.set_cons_succ]
          refine lat_take 10 (v := ?_) rfl (by kernel_rfl) (by kernel_rfl) (by kernel_rfl) (by kernel_rfl) (fun _ _ _ h => h) (by rfl) ?_ (by assumption) ?_
          rotate_left
          · (intro y hSy; (try dsimp only at hSy); (try obtain ⟨q0, q1⟩ := hSy); go_simp <;> with_reducible rfl)
          try simp only [Act.put, List.setIfInBounds_toArray, List.set_cons_zero, List.set_cons_succ]
          refine lat_take 11 (v := ?_) rfl (by kernel_rfl) (by kernel_rfl) (by kernel_rfl) (by kernel_rfl) (fun _ _ _ h => h) (by rfl) ?_ (by assumption) ?_
          rotate_left
          · (intro y hSy; (try dsimp only at hSy); (try obtain ⟨q0, q1⟩ := hSy); go_simp <;> with_reducible rfl)
          try simp only [Act.put, List.setIfInBounds_toArray, List.set_cons_zero, List.set_cons_succ]
          refine lat_take 12 (v := ?_) rfl (by kernel_rfl) (by kernel_rfl) (by kernel_rfl) (by kernel_rfl) (fun _ _ _ h => h) (by rfl) ?_ (by assumption) ?_
          rotate_left
          · (intro y hSy; (try dsimp only at hSy); (try obtain ⟨q0, q1⟩ := hSy); go_simp <;> with_reducible rfl)
          try simp only [Act.put, List.setIfInBounds_toArray, List.set_cons_zero, List.set_cons_succ]
          refine lat_take 13 (v := ?_) rfl (by kernel_rfl) (by kernel_rfl) (by kernel_rfl) (by kernel_rfl) (fun _ _ _ h => h) (by rfl) ?_ (by assumption) ?_
          rotate_left
          · (intro y hSy; (try dsimp only at hSy); (try obtain ⟨q0, q1⟩ := hSy); go_simp <;> with_reducible rfl)
          try simp only [Act.put, List.setIfInBounds_toArray, List.set_cons_zero, List.set_cons_succ]
          refine lat_take 14 (v := ?_) rfl (by kernel_rfl) (by kernel_rfl) (by kernel_rfl) (by kernel_rfl) (fun _ _ _ h => h) (by rfl) ?_ (by assumption) ?_
          rotate_left
          · (intro y hSy; (try dsimp only at hSy); (try obtain ⟨q0, q1⟩ := hSy); go_simp <;> with_reducible rfl)
          try simp only [Act.put, List.setIfInBounds_toArray, List.set_cons_zero, List.set_cons_succ]
          refine lat_last 15 rfl (by kernel_rfl) (by decide) (by kernel_rfl) (by rfl) (fun K hK => ?_)
          go_simp
          try dsimp only
          refine hK.out _ _ ?_
          clear hK
          try simp only [Act.put, List.setIfInBounds_toArray, List.set_cons_zero, List.set_cons_succ]
          go_wp2_with fail
          exact ⟨⟨jj + 1, by omega, by go_num, by rw [HTK.out, ← gmx_num kn im b c (.slice ra (b 11).rs.length rc) (r.take jj) f (by omega) HFF.out.1 HFF.out.2.1 HFF.out.2.2]; exact HQE.out⟩, by simp [iof]; omega⟩
      · obtain rfl : jj = r.length := by omega
        have et : r.take r.length = r := List.take_length
        rw [et] at HQ
        obtain ⟨SL, HSL⟩ : ∃ SL, Hid (st r.length = SL) := ⟨_, rfl⟩
        rw [HSL.out] at HQ HSX
        have HQD : Hid (RQS w w1.heap.size w2.heap.size P (rqc (kn : Int) (im : Int) b c ra rc) CSF (gmx (kn : Int) (im : Int) b c (.slice ra (b 11).rs.length rc) r) ga r SL (5 + r.length * 60400000) wr.drew) := RQS.below HQ.out (below_drew _)
        obtain ⟨a3, l3, c3, p0, p1, e0, e1, hx3, ho3, hbt3, hl3, hs3⟩ := HQD.out.pen.open
        have HL3 : Hid (l3.length ≤ 5 + 7 * 60400000) := Nat.le_trans hl3 (Nat.add_le_add_left (Nat.mul_le_mul_right 60400000 HLEN.out) 5)
        clear et hl3
        cases SL with
        | none =>
          simp only [Option.isNone_none] at p1
          have HBD : Hid (Below w.heap.size w wr.drew) := HQD.out.pen.bel
          have hsx : SX = none := by rw [HSX.out]; split <;> rfl
          have hS2 : wr.drew.cell? ⟨P, 1, none⟩ = some (.bool true) := p1
          subst hsx
          clear p0 e0 e1 hx3 ho3 hbt3 hs3 HSX
          go_wp2_with fail
          refine wp_region_lat (fun y : World => y.cell? ⟨P, 1, none⟩ = some (.bool true)) 10 (by kernel_rfl) hS2 (fun hHeld3 => ?_)
          generalize wr.drew = z at *
          refine lat_take 0 (v := ?_) rfl (by kernel_rfl) (by kernel_rfl) (by kernel_rfl) (by kernel_rfl) (fun _ _ _ h => h) (by rfl) ?_ (by assumption) ?_
          rotate_left
          · (intro y hSy; (try dsimp only at hSy); (try obtain q0 := hSy); go_simp <;> with_reducible rfl)
          try simp only [Act.put, List.setIfInBounds_toArray, List.set_cons_zero, List.set_cons_succ]
          refine lat_take 1 (v := ?_) rfl (by kernel_rfl) (by kernel_rfl) (by kernel_rfl) (by kernel_rfl) (fun _ _ _ h => h) (by rfl) ?_ (by assumption) ?_
          rotate_left
          · (intro y hSy; (try dsimp only at hSy); (try obtain q0 := hSy); go_simp <;> with_reducible rfl)
          try simp only [Act.put, List.setIfInBounds_toArray, List.set_cons_zero, List.set_cons_succ]
          refine lat_take 2 (v := ?_) rfl (by kernel_rfl) (by kernel_rfl) (by kernel_rfl) (by kernel_rfl) (fun _ _ _ h => h) (by rfl) ?_ (by assumption) ?_
          rotate_left
          · (intro y hSy; (try dsimp only at hSy); (try obtain q0 := hSy); go_simp <;> with_reducible rfl)
          try simp only [Act.put, List.setIfInBounds_toArray, List.set_cons_zero, List.set_cons_succ]
          refine lat_take 3 (v := ?_) rfl (by kernel_rfl) (by kernel_rfl) (by kernel_rfl) (by kernel_rfl) (fun _ _ _ h => h) (by rfl) ?_ (by assumption) ?_
          rotate_left
          · (intro y hSy; (try dsimp only at hSy); (try obtain q0 := hSy); go_simp <;> with_reducible rfl)
          try simp only [Act.put, List.setIfInBounds_toArray, List.set_cons_zero, List.set_cons_succ]
          refine lat_take 4 (v := ?_) rfl (by kernel_rfl) (by kernel_rfl) (by kernel_rfl) (by kernel_rfl) (fun _ _ _ h => h) (by rfl) ?_ (by assumption) ?_
          rotate_left
          · (intro y hSy; (try dsimp only at hSy); (try obtain q0 := hSy); go_simp <;> with_reducible rfl)
          try simp only [Act.put, List.setIfInBounds_toArray, List.set_cons_zero, List.set_cons_succ]
          refine lat_skip 5 rfl (by kernel_rfl) (by kernel_rfl) (by kernel_rfl) (by kernel_rfl) (fun _ _ _ h => h) (by rfl) (by assumption) ?_
          try simp only [Act.put, List.setIfInBounds_toArray, List.set_cons_zero, List.set_cons_succ]
          refine lat_skip 6 rfl (by kernel_rfl) (by kernel_rfl) (by kernel_rfl) (by kernel_rfl) (fun _ _ _ h => h) (by rfl) (by assumption) ?_
          try simp only [Act.put, List.setIfInBounds_toArray, List.set_cons_zero, List.set_cons_succ]
          refine lat_skip 7 rfl (by kernel_rfl) (by kernel_rfl) (by kernel_rfl) (by kernel_rfl) (fun _ _ _ h => h) (by rfl) (by assumption) ?_
          try simp only [Act.put, List.setIfInBounds_toArray, List.set_cons_zero, List.set_cons_succ]
          refine lat_skip 8 rfl (by kernel_rfl) (by kernel_rfl) (by kernel_rfl) (by kernel_rfl) (fun _ _ _ h => h) (by rfl) (by assumption) ?_
          try simp only [Act.put, List.setIfInBounds_toArray, List.set_cons_zero, List.set_cons_succ]
          refine lat_skip 9 rfl (by kernel_rfl) (by kernel_rfl) (by kernel_rfl) (by kernel_rfl) (fun _ _ _ h => h) (by rfl) (by assumption) ?_
          try simp only [Act.put, List.setIfInBounds_toArray, List.set_cons_zero, List.set_cons_succ]
          refine lat_last 10 rfl (by kernel_rfl) (by decide) (by kernel_rfl) (by rfl) (fun K hK => ?_)
          go_simp
          try dsimp only
          refine hK.out _ _ ?_
          clear hK
          try simp only [Act.put, List.setIfInBounds_toArray, List.set_cons_zero, List.set_cons_succ]
          go_wp2_with fail
          go_ret2
          exact encP_no HBD.out
        | some L =>
          simp only [Option.isNone_some] at p1
          have HX3 : Hid (wr.drew.heap[P]? = some (.cells #[.slice a3 l3.length c3, .bool false] 79 (0, 0))) := hx3
          have HP3 : Hid (wr.drew.ownsRow w.heap.size 5 1 (.slice a3 l3.length c3) l3.length (cv l3) ∧ Byt l3 ∧ ∀ L', some L = some L' → l3 = L') := ⟨ho3, hbt3, hs3⟩
          clear hx3 ho3 hbt3 hs3
          cases R
          · have hS2 : (wr.drew.cell? ⟨P, 1, none⟩ = some (.bool false) ∧ wr.drew.heap[w2.heap.size]? = some (.cells (gmx (kn : Int) (im : Int) b c (.slice ra (b 11).rs.length rc) r) 71 (0, 0))) ∧ wr.drew.heap[w.heap.size]? = some (.cells (rqc (kn : Int) (im : Int) b c ra rc) 26 (0, 0)) := ⟨⟨p1, HQD.out.h5⟩, HQD.out.h0⟩
            have HSB2 : Hid (∀ x, Below wr.drew.heap.size wr.drew x → (x.cell? ⟨P, 1, none⟩ = some (.bool false) ∧ x.heap[w2.heap.size]? = some (.cells (gmx (kn : Int) (im : Int) b c (.slice ra (b 11).rs.length rc) r) 71 (0, 0))) ∧ x.heap[w.heap.size]? = some (.cells (rqc (kn : Int) (im : Int) b c ra rc) 26 (0, 0))) := fun x hx => ⟨⟨by rw [(box_at (box_keep' HX3.out hx) 1).1]; rfl, box_keep' HQD.out.h5 hx⟩, box_keep' HQD.out.h0 hx⟩
            have HBD : Hid (Below w.heap.size w wr.drew) := HQD.out.pen.bel
            have HGS : Hid ((gmx (kn : Int) (im : Int) b c (.slice ra (b 11).rs.length rc) r).size = 29) := gbc_size _ _ _ _ _ _ _ _ _
            clear p0 p1 e0 e1
            go_wp2_with fail
            refine wp_region_lat (fun y : World => (y.cell? ⟨P, 1, none⟩ = some (.bool false) ∧ y.heap[w2.heap.size]? = some (.cells (gmx (kn : Int) (im : Int) b c (.slice ra (b 11).rs.length rc) r) 71 (0, 0))) ∧ y.heap[w.heap.size]? = some (.cells (rqc (kn : Int) (im : Int) b c ra rc) 26 (0, 0))) 10 (by kernel_rfl) hS2 (fun hHeld3 => ?_)
            generalize wr.drew = z at *
            refine lat_take 0 (v := ?_) rfl (by kernel_rfl) (by kernel_rfl) (by kernel_rfl) (by kernel_rfl) (fun _ _ _ h => h) (by rfl) ?_ (by assumption) ?_
            rotate_left
            · (intro y hSy; (try dsimp only at hSy); (try obtain ⟨⟨q0, q1⟩, q2⟩ := hSy); go_simp <;> with_reducible rfl)
            try simp only [Act.put, List.setIfInBounds_toArray, List.set_cons_zero, List.set_cons_succ]
            refine lat_take 1 (v := ?_) rfl (by kernel_rfl) (by kernel_rfl) (by kernel_rfl) (by kernel_rfl) (fun _ _ _ h => h) (by rfl) ?_ (by assumption) ?_
            rotate_left
            · (intro y hSy; (try dsimp only at hSy); (try obtain ⟨⟨q0, q1⟩, q2⟩ := hSy); go_simp <;> with_reducible rfl)
            try simp only [Act.put, List.setIfInBounds_toArray, List.set_cons_zero, List.set_cons_succ]
            refine lat_take 2 (v := ?_) rfl (by kernel_rfl) (by kernel_rfl) (by kernel_rfl) (by kernel_rfl) (fun _ _ _ h => h) (by rfl) ?_ (by assumption) ?_
            rotate_left
            · (intro y hSy; (try dsimp only at hSy); (try obtain ⟨⟨q0, q1⟩, q2⟩ := hSy); go_simp <;> with_reducible rfl)
            try simp only [Act.put, List.setIfInBounds_toArray, List.set_cons_zero, List.set_cons_succ]
            refine lat_take 3 (v := ?_) rfl (by kernel_rfl) (by kernel_rfl) (by kernel_rfl) (by kernel_rfl) (fun _ _ _ h => h) (by rfl) ?_ (by assumption) ?_
            rotate_left
            · (intro y hSy; (try dsimp only at hSy); (try obtain ⟨⟨q0, q1⟩, q2⟩ := hSy); go_simp <;> with_reducible rfl)
            try simp only [Act.put, List.setIfInBounds_toArray, List.set_cons_zero, List.set_cons_succ]
            refine lat_take 4 (v := ?_) rfl (by kernel_rfl) (by kernel_rfl) (by kernel_rfl) (by kernel_rfl) (fun _ _ _ h => h) (by rfl) ?_ (by assumption) ?_
            rotate_left
            · (intro y hSy; (try dsimp only at hSy); (try obtain ⟨⟨q0, q1⟩, q2⟩ := hSy); go_simp <;> with_reducible rfl)
            try simp only [Act.put, List.setIfInBounds_toArray, List.set_cons_zero, List.set_cons_succ]
            refine lat_box 5 rfl (by kernel_rfl) (by kernel_rfl) (by kernel_rfl) (by kernel_rfl) 71 _ rfl w2.heap.size (gmx (kn : Int) (im : Int) b c (.slice ra (b 11).rs.length rc) r) (fun _ _ _ h => h) (by rfl) rfl 71 _ (fun y hy => hy.1.2) Tryd.underlying71 rfl (by rw [HGS.out]; exact Tryd.info71) (by assumption) ?_
            try simp only [Act.put, List.setIfInBounds_toArray, List.set_cons_zero, List.set_cons_succ]
            refine lat_box 7 rfl (by kernel_rfl) (by kernel_rfl) (by kernel_rfl) (by kernel_rfl) 26 _ rfl w.heap.size (rqc (kn : Int) (im : Int) b c ra rc) (fun _ _ _ h => h) (by rfl) rfl 26 _ (fun y hy => hy.2) Tryd.underlying26 rfl (by rw [HQ17.out]; exact Tryd.info26) (by assumption) ?_
            try simp only [Act.put, List.setIfInBounds_toArray, List.set_cons_zero, List.set_cons_succ]
            refine lat_one 6 rfl (by kernel_rfl) (by decide) (by rfl) (fun K hK => ?_)
            go_simp
            refine Calls.mono (HUB.out z) ?_
            rintro e x1 ⟨⟨cs, rfl, hsame⟩, hu1⟩
            try dsimp only
            refine hK.out _ _ (HSB2.out _ hu1) (fun hH5 => ?_)
            clear hK
            try simp only [Act.put, List.setIfInBounds_toArray, List.set_cons_zero, List.set_cons_succ]
            refine lat_one 8 rfl (by kernel_rfl) (by decide) (by rfl) (fun K hK => ?_)
            go_simp
            refine Calls.mono (hsame x1 (HBD.out.trans (hu1.mono HBD.out.size))) ?_
            rintro e x2 ⟨rfl, hu2⟩
            have hu12 : Below z.heap.size z x2 := hu1.trans (hu2.mono hu1.size)
            try dsimp only
            refine hK.out _ _ (HSB2.out _ hu12) (fun hH6 => ?_)
            clear hK hsame
            try simp only [Act.put, List.setIfInBounds_toArray, List.set_cons_zero, List.set_cons_succ]
            refine lat_take 9 (v := ?_) rfl (by kernel_rfl) (by kernel_rfl) (by kernel_rfl) (by kernel_rfl) (fun _ _ _ h => h) (by rfl) ?_ (by assumption) ?_
            rotate_left
            · (intro y hSy; (try dsimp only at hSy); (try obtain ⟨⟨q0, q1⟩, q2⟩ := hSy); go_simp <;> with_reducible rfl)
            try simp only [Act.put, List.setIfInBounds_toArray, List.set_cons_zero, List.set_cons_succ]
            refine lat_last 10 rfl (by kernel_rfl) (by decide) (by kernel_rfl) (by rfl) (fun K hK => ?_)
            go_simp
            try dsimp only
            refine hK.out _ _ ?_
            clear hK
            try simp only [Act.put, List.setIfInBounds_toArray, List.set_cons_zero, List.set_cons_succ]
            have HBX2 : Hid (Below w.heap.size w x2) := HBD.out.trans (hu12.mono HBD.out.size)
            obtain ⟨p0, p1, e0, e1⟩ := pen_cells (box_keep' HX3.out hu12)
            go_wp2_with fail
            go_ret2
            rw [show SX = none by rw [HSX.out]; rfl]
            exact encP_no HBX2.out
          · have hS2 : (wr.drew.cell? ⟨P, 1, none⟩ = some (.bool false) ∧ wr.drew.heap[w2.heap.size]? = some (.cells (gmx (kn : Int) (im : Int) b c (.slice ra (b 11).rs.length rc) r) 71 (0, 0))) ∧ wr.drew.heap[w.heap.size]? = some (.cells (rqc (kn : Int) (im : Int) b c ra rc) 26 (0, 0)) := ⟨⟨p1, HQD.out.h5⟩, HQD.out.h0⟩
            have HSB2 : Hid (∀ x, Below wr.drew.heap.size wr.drew x → (x.cell? ⟨P, 1, none⟩ = some (.bool false) ∧ x.heap[w2.heap.size]? = some (.cells (gmx (kn : Int) (im : Int) b c (.slice ra (b 11).rs.length rc) r) 71 (0, 0))) ∧ x.heap[w.heap.size]? = some (.cells (rqc (kn : Int) (im : Int) b c ra rc) 26 (0, 0))) := fun x hx => ⟨⟨by rw [(box_at (box_keep' HX3.out hx) 1).1]; rfl, box_keep' HQD.out.h5 hx⟩, box_keep' HQD.out.h0 hx⟩
            have HBD : Hid (Below w.heap.size w wr.drew) := HQD.out.pen.bel
            have HGS : Hid ((gmx (kn : Int) (im : Int) b c (.slice ra (b 11).rs.length rc) r).size = 29) := gbc_size _ _ _ _ _ _ _ _ _
            clear p0 p1 e0 e1
            go_wp2_with fail
            refine wp_region_lat (fun y : World => (y.cell? ⟨P, 1, none⟩ = some (.bool false) ∧ y.heap[w2.heap.size]? = some (.cells (gmx (kn : Int) (im : Int) b c (.slice ra (b 11).rs.length rc) r) 71 (0, 0))) ∧ y.heap[w.heap.size]? = some (.cells (rqc (kn : Int) (im : Int) b c ra rc) 26 (0, 0))) 10 (by kernel_rfl) hS2 (fun hHeld3 => ?_)
            generalize wr.drew = z at *
            refine lat_take 0 (v := ?_) rfl (by kernel_rfl) (by kernel_rfl) (by kernel_rfl) (by kernel_rfl) (fun _ _ _ h => h) (by rfl) ?_ (by assumption) ?_
            rotate_left
            · (intro y hSy; (try dsimp only at hSy); (try obtain ⟨⟨q0, q1⟩, q2⟩ := hSy); go_simp <;> with_reducible rfl)
            try simp only [Act.put, List.setIfInBounds_toArray, List.set_cons_zero, List.set_cons_succ]
            refine lat_take 1 (v := ?_) rfl (by kernel_rfl) (by kernel_rfl) (by kernel_rfl) (by kernel_rfl) (fun _ _ _ h => h) (by rfl) ?_ (by assumption) ?_
            rotate_left
            · (intro y hSy; (try dsimp only at hSy); (try obtain ⟨⟨q0, q1⟩, q2⟩ := hSy); go_simp <;> with_reducible rfl)
            try simp only [Act.put, List.setIfInBounds_toArray, List.set_cons_zero, List.set_cons_succ]
            refine lat_take 2 (v := ?_) rfl (by kernel_rfl) (by kernel_rfl) (by kernel_rfl) (by kernel_rfl) (fun _ _ _ h => h) (by rfl) ?_ (by assumption) ?_
            rotate_left
            · (intro y hSy; (try dsimp only at hSy); (try obtain ⟨⟨q0, q1⟩, q2⟩ := hSy); go_simp <;> with_reducible rfl)
            try simp only [Act.put, List.setIfInBounds_toArray, List.set_cons_zero, List.set_cons_succ]
            refine lat_take 3 (v := ?_) rfl (by kernel_rfl) (by kernel_rfl) (by kernel_rfl) (by kernel_rfl) (fun _ _ _ h => h) (by rfl) ?_ (by assumption) ?_
            rotate_left
            · (intro y hSy; (try dsimp only at hSy); (try obtain ⟨⟨q0, q1⟩, q2⟩ := hSy); go_simp <;> with_reducible rfl)
            try simp only [Act.put, List.setIfInBounds_toArray, List.set_cons_zero, List.set_cons_succ]
            refine lat_take 4 (v := ?_) rfl (by kernel_rfl) (by kernel_rfl) (by kernel_rfl) (by kernel_rfl) (fun _ _ _ h => h) (by rfl) ?_ (by assumption) ?_
            rotate_left
            · (intro y hSy; (try dsimp only at hSy); (try obtain ⟨⟨q0, q1⟩, q2⟩ := hSy); go_simp <;> with_reducible rfl)
            try simp only [Act.put, List.setIfInBounds_toArray, List.set_cons_zero, List.set_cons_succ]
            refine lat_box 5 rfl (by kernel_rfl) (by kernel_rfl) (by kernel_rfl) (by kernel_rfl) 71 _ rfl w2.heap.size (gmx (kn : Int) (im : Int) b c (.slice ra (b 11).rs.length rc) r) (fun _ _ _ h => h) (by rfl) rfl 71 _ (fun y hy => hy.1.2) Tryd.underlying71 rfl (by rw [HGS.out]; exact Tryd.info71) (by assumption) ?_
            try simp only [Act.put, List.setIfInBounds_toArray, List.set_cons_zero, List.set_cons_succ]
            refine lat_box 7 rfl (by kernel_rfl) (by kernel_rfl) (by kernel_rfl) (by kernel_rfl) 26 _ rfl w.heap.size (rqc (kn : Int) (im : Int) b c ra rc) (fun _ _ _ h => h) (by rfl) rfl 26 _ (fun y hy => hy.2) Tryd.underlying26 rfl (by rw [HQ17.out]; exact Tryd.info26) (by assumption) ?_
            try simp only [Act.put, List.setIfInBounds_toArray, List.set_cons_zero, List.set_cons_succ]
            refine lat_one 6 rfl (by kernel_rfl) (by decide) (by rfl) (fun K hK => ?_)
            go_simp
            refine Calls.mono (HUB.out z) ?_
            rintro e x1 ⟨⟨cs, rfl, hsame⟩, hu1⟩
            try dsimp only
            refine hK.out _ _ (HSB2.out _ hu1) (fun hH5 => ?_)
            clear hK
            try simp only [Act.put, List.setIfInBounds_toArray, List.set_cons_zero, List.set_cons_succ]
            refine lat_one 8 rfl (by kernel_rfl) (by decide) (by rfl) (fun K hK => ?_)
            go_simp
            refine Calls.mono (hsame x1 (HBD.out.trans (hu1.mono HBD.out.size))) ?_
            rintro e x2 ⟨rfl, hu2⟩
            have hu12 : Below z.heap.size z x2 := hu1.trans (hu2.mono hu1.size)
            try dsimp only
            refine hK.out _ _ (HSB2.out _ hu12) (fun hH6 => ?_)
            clear hK hsame
            try simp only [Act.put, List.setIfInBounds_toArray, List.set_cons_zero, List.set_cons_succ]
            refine lat_take 9 (v := ?_) rfl (by kernel_rfl) (by kernel_rfl) (by kernel_rfl) (by kernel_rfl) (fun _ _ _ h => h) (by rfl) ?_ (by assumption) ?_
            rotate_left
            · (intro y hSy; (try dsimp only at hSy); (try obtain ⟨⟨q0, q1⟩, q2⟩ := hSy); go_simp <;> with_reducible rfl)
            try simp only [Act.put, List.setIfInBounds_toArray, List.set_cons_zero, List.set_cons_succ]
            refine lat_last 10 rfl (by kernel_rfl) (by decide) (by kernel_rfl) (by rfl) (fun K hK => ?_)
            go_simp
            try dsimp only
            refine hK.out _ _ ?_
            clear hK
            try simp only [Act.put, List.setIfInBounds_toArray, List.set_cons_zero, List.set_cons_succ]
            have HBX2 : Hid (Below w.heap.size w x2) := HBD.out.trans (hu12.mono HBD.out.size)
            obtain ⟨p0, p1, e0, e1⟩ := pen_cells (box_keep' HX3.out hu12)
            go_wp2_with fail
            go_ret2
            have e3 : l3 = L := HP3.out.2.2 L rfl
            subst e3
            rw [show SX = some l3 by rw [HSX.out]; rfl]
            exact encP_yes (own_any (own_any HP3.out.1 hu1) hu2) HP3.out.2.1 (Nat.le_trans HL3.out (by decide)) HBX2.out
end Go.Proofs.YtaooidckmepdeaaDoor
