/- The walk of BatchRows. -/
import Derived.Test.YtgpeldmplkijlaaDoorBw
import Derived.Test.YtgpeldmplkijlaaDoorDq
namespace Go.Proofs.YtgpeldmplkijlaaDoor
set_option linter.unusedSimpArgs false
set_option linter.unusedVariables false
open Go.RowKit
set_option maxRecDepth 100000 in
theorem rows_long (a : Option Addr) (cap n : Nat) (w : World) (ht : Tab w) (hn : 10 < n) :
    Calls Tryd.prog 9 #[.slice a n cap] w fun e w' => e = .returned (.bool true) ∧ Below w.heap.size w w' := by
  have HA : Hid (Calls Tryd.prog 12 #[] w fun e w' => e = .returned (.bool true) ∧ Below w.heap.size w w') := awake_any w ht
  have hnI : (10 : Int) < (n : Int) := by omega
  go_enter Tryd.func9, Tryd.ntmps9
  go_wp2_with (go_at_call 12; refine Calls.mono HA.out ?_; rintro e w9 ⟨rfl, hb9⟩)
  go_ret
  exact ⟨rfl, hb9⟩
set_option maxHeartbeats 3200000 in
set_option maxRecDepth 100000 in
theorem rows_some (a : Option Addr) (cap : Nat) (ss : List Bs) (w : World) (ht : Tab w) (hr : BRow w a ss) (hn : ss.length ≤ 10) :
    Calls Tryd.prog 9 #[.slice a ss.length cap] w fun e w' => e = .returned (.bool true) ∧ Below w.heap.size w w' := by
  have HA : Hid (∀ x, Tab x → Calls Tryd.prog 12 #[] x fun e w' => e = .returned (.bool true) ∧ Below x.heap.size x w') := fun x h => awake_any x h
  have HT : Hid (Tab w) := ht
  have HBR : Hid (BRow w a ss) := hr
  have HGY : Hid (∀ k, k < ss.length → chkB (ss.getD k bsz).b = 0 → gd ss (k + 1) = gd ss k ++ [ss.getD k bsz]) := gd_yes ss
  have HGN : Hid (∀ k, k < ss.length → chkB (ss.getD k bsz).b ≠ 0 → gd ss (k + 1) = gd ss k) := gd_no ss
  have HGL : Hid (∀ k, k ≤ ss.length → (gd ss k).length ≤ 10 ∧ (pb (gd ss k)).length ≤ 60000) := by
    intro k hk
    have h1 := gd_len ss k
    have h2 := pb_len (g := gd ss k) (fun s hs => (gd_mem hs).2)
    exact ⟨by omega, by omega⟩
  have HGM : Hid (∀ k s, s ∈ gd ss k → chkB s.b = 0 ∧ BaOk w s.b s.a s.cap) := fun k s hs => ⟨(gd_mem hs).2, AllB.mem hr.2 s (gd_mem hs).1⟩
  have HG0 : Hid (gd ss 0 = []) := rfl
  have hnI : ¬ (10 : Int) < (ss.length : Int) := by omega
  have hnd : decide ((10 : Int) < (ss.length : Int)) = false := decide_eq_false hnI
  clear ht hr
  go_enter Tryd.func9, Tryd.ntmps9
  go_wp2_with fail
  go_loopw [3, 4, 5] (fun p q i x => ∃ k : Nat, k ≤ ss.length ∧ i = .int .i64 k ∧ x.ownsRow w.heap.size 5 1 p (pb (gd ss k)).length (cv (pb (gd ss k))) ∧ x.ownsRow w.heap.size 24 5 q (gd ss k).length (bcv (gd ss k)) ∧ Below w.heap.size w x) (fun _ _ i _ => ss.length - (intOf i).toNat)
  case atStart => exact ⟨0, by omega, rfl, by rw [HG0.out]; exact World.ownsRow_nil _ _ _ _, by rw [HG0.out]; exact World.ownsRow_nil _ _ _ _, Below.refl _ _⟩
  case round =>
    obtain ⟨k, hk, rfl, hp, hq, hbel⟩ := hrel
    by_cases hlt : k < ss.length
    · have hltI : (k : Int) < (ss.length : Int) := by omega
      have HPQ : Hid (wr.ownsRow w.heap.size 5 1 u3 (pb (gd ss k)).length (cv (pb (gd ss k))) ∧ wr.ownsRow w.heap.size 24 5 u4 (gd ss k).length (bcv (gd ss k)) ∧ Below w.heap.size w wr) := ⟨hp, hq, hbel⟩
      have HOK : Hid (BaOk w (ss.getD k bsz).b (ss.getD k bsz).a (ss.getD k bsz).cap) := HBR.out.2 k hlt
      obtain ⟨g0, off, ea, -⟩ := HBR.out.1 k hlt
      have HCE : Hid (∀ x, Below w.heap.size w x → x.cell? ⟨g0, off + k * 5, none⟩ = some (.int .i64 (ss.getD k bsz).b.base) ∧ x.cell? ⟨g0, off + k * 5 + 1, none⟩ = some (.int .i64 (ss.getD k bsz).b.span) ∧ x.cell? ⟨g0, off + k * 5 + 2, none⟩ = some (.int .i64 (ss.getD k bsz).b.prod) ∧ x.cell? ⟨g0, off + k * 5 + 3, none⟩ = some (.int .i64 (ss.getD k bsz).b.seq) ∧ x.cell? ⟨g0, off + k * 5 + 4, none⟩ = some (.slice (ss.getD k bsz).a (ss.getD k bsz).b.rs.length (ss.getD k bsz).cap)) := by
        intro x hx
        obtain ⟨g1, off1, e1, q0, q1, q2, q3, q4⟩ := (HBR.out.1.below hx) k hlt
        rw [ea] at e1
        injection e1 with e1
        injection e1 with e1 e2
        subst e1
        subst e2
        exact ⟨q0, q1, q2, q3, q4⟩
      have hg0 : g0 < w.heap.size := by
        have := World.block_lt_of_cell? _ _ (HCE.out w (Below.refl _ _)).1
        simpa using this
      subst ea
      have HYk := HGY.out k hlt
      have HNk := HGN.out k hlt
      have hb1 := (HGL.out k hk).1
      have hb2 := (HGL.out k hk).2
      have HB0 : Hid (Below w.heap.size w wr) := hbel
      clear hp hq hbel HGY HGN HGL HGM HBR HG0
      have HNX : Hid (∀ (x : World) (p q : Value), (∃ s, s = ss.getD k bsz ∧ ((chkB s.b = 0 ∧ x.ownsRow w.heap.size 5 1 p ((pb (gd ss k)).length + (encBL s.b).length) (cv (pb (gd ss k)) ++ cv (encBL s.b)) ∧ x.ownsRow w.heap.size 24 5 q ((gd ss k).length + 1) (bcv (gd ss k) ++ bcv [s])) ∨ (chkB s.b ≠ 0 ∧ x.ownsRow w.heap.size 5 1 p (pb (gd ss k)).length (cv (pb (gd ss k))) ∧ x.ownsRow w.heap.size 24 5 q (gd ss k).length (bcv (gd ss k))))) → x.ownsRow w.heap.size 5 1 p (pb (gd ss (k + 1))).length (cv (pb (gd ss (k + 1)))) ∧ x.ownsRow w.heap.size 24 5 q (gd ss (k + 1)).length (bcv (gd ss (k + 1)))) := by
        rintro x p q ⟨s, rfl, ⟨hc, h1, h2⟩ | ⟨hc, h1, h2⟩⟩
        · rw [HYk hc, pb_app, pb_one, List.length_append, List.length_append, cv_append, bcv_app]
          exact ⟨h1, h2⟩
        · rw [HNk hc]
          exact ⟨h1, h2⟩
      clear HYk HNk
      generalize ss.getD k bsz = s at *
      obtain ⟨b, sa, sc⟩ := s
      simp only at HOK HCE HNX
      obtain ⟨hrr, hi, hl, hnn, -⟩ := HOK.out
      have HR : Hid (RRow w sa b.rs) := hrr
      have HSM : Hid (∀ x, RRow x sa b.rs → Calls Tryd.prog 11 #[.slice sa b.rs.length sc] x fun e w' => IsB b.rs.length e ∧ Below x.heap.size x w') := fun x hx => small_any sa sc b.rs x hx hl
      have HE := bencode_any b sa sc hi hl
      unfold BEnc at HE
      clear hrr hnn HOK
      obtain ⟨GD, HGD⟩ : ∃ G, Hid (gd ss k = G) := ⟨_, rfl⟩
      rw [HGD.out] at HPQ HNX hb1 hb2
      obtain ⟨PB, HPB⟩ : ∃ P, Hid (pb GD = P) := ⟨_, rfl⟩
      rw [HPB.out] at HPQ HNX hb2
      by_cases hc : chkB b = 0
      · have HEO : Hid (∀ x, Tab x → RRow x sa b.rs → Calls Tryd.prog 13 #[bav b sa sc] x fun e w' => ∃ g, e = .returned (.tuple #[.slice (some ⟨g, 0, none⟩) (encBL b).length (encBL b).length, .int .i64 0]) ∧ Own x.heap.size w' g (encBL b).length (encBL b) ∧ Below x.heap.size x w') := fun x h1 h2 => bencode_ok b sa sc x h2 hi h1 hc
        have HLB : Hid (∀ i, (encBL b).getD i 0 < 256) := lt_mem (encB_mem (chk_parts hc).1)
        have hle := encB_len b
        have h6 := (chk_parts hc).2
        have hL6 : (encBL b).length ≤ 6000 := by omega
        have HNW : Hid (∀ y : World, BCells (y.alloc (.cells (bcells b sa sc) 24)) (some ⟨y.heap.size, 0, none⟩) [⟨b, sa, sc⟩]) := fun y => brow_new y ⟨b, sa, sc⟩
        have HN2 : Hid (∀ (x : World) p q, x.ownsRow w.heap.size 5 1 p (PB.length + (encBL b).length) (cv PB ++ cv (encBL b)) → x.ownsRow w.heap.size 24 5 q (GD.length + 1) (bcv GD ++ bcv [⟨b, sa, sc⟩]) → x.ownsRow w.heap.size 5 1 p (pb (gd ss (k + 1))).length (cv (pb (gd ss (k + 1)))) ∧ x.ownsRow w.heap.size 24 5 q (gd ss (k + 1)).length (bcv (gd ss (k + 1)))) := fun x p q h1 h2 => HNX.out x p q ⟨_, rfl, .inl ⟨hc, h1, h2⟩⟩
        clear HE HNX hle h6 hc hi hl
        generalize encBL b = L at *
        generalize HBC : bcv [⟨b, sa, sc⟩] = BC at HN2
        have HBC' : Hid (∀ v', v' = bcv [⟨b, sa, sc⟩] → v' = BC) := fun v' h => h.trans HBC
        clear HBC
        obtain ⟨base, span, prod, seq, rs⟩ := b
        simp only [bav, bcells] at *
        obtain ⟨z0, z1, z2, z3, z4⟩ := HCE.out wr HB0.out
        go_wp2_with (first
          | (go_at_call 11; refine (HSM.out _ (RRow.below HR.out HB0.out)).mono ?_; rintro e w1 ⟨⟨sm, rfl, hsm⟩, hb1'⟩; have HB1 : Hid (Below w.heap.size w w1) := HB0.out.trans (hb1'.mono HB0.out.size); have HPQ1 : Hid (w1.ownsRow w.heap.size 5 1 u3 PB.length (cv PB) ∧ w1.ownsRow w.heap.size 24 5 u4 GD.length (bcv GD)) := ⟨owns_below HPQ.out.1 hb1', owns_below HPQ.out.2.1 hb1'⟩; clear z0 z1 z2 z3 z4 hb1' hsm HPQ HB0; obtain ⟨z0, z1, z2, z3, z4⟩ := HCE.out w1 HB1.out)
          | (go_at_call 12; have _t := HB1; refine (HA.out _ (Tab.below HT.out HB1.out)).mono ?_; rintro e w9 ⟨rfl, hb9⟩; have HB9 : Hid (Below w.heap.size w w9) := HB1.out.trans (hb9.mono HB1.out.size))
          | (go_at_call 13; refine (HEO.out _ (Tab.below HT.out HB1.out) (RRow.below HR.out HB1.out)).mono ?_; rintro e w2 ⟨g2, rfl, ho2, hb2'⟩; have HB2 : Hid (Below w.heap.size w w2) := HB1.out.trans (hb2'.mono HB1.out.size); have HO2 : Hid (Own w1.heap.size w2 g2 L.length L) := ho2; have HPQ2 : Hid (w2.ownsRow w.heap.size 5 1 u3 PB.length (cv PB) ∧ w2.ownsRow w.heap.size 24 5 u4 GD.length (bcv GD)) := ⟨owns_below HPQ1.out.1 hb2', owns_below HPQ1.out.2 hb2'⟩; clear z0 z1 z2 z3 z4 ho2 hb2' HPQ1 HB1)
          | (at_builtin; have _t := HO2; refine wpList_append_rowg (by rfl) _ _ rfl w.heap.size w _ _ _ rfl HPQ2.out.1 HB2.out HB2.out.size ⟨g2, 0, none⟩ L.length L rfl (HO2.out.row HLB.out) (by omega) ?_; intro v3 w3 hown3 hb3 hg3; have HB3 : Hid (Below w.heap.size w w3) := hb3; have HQ3 : Hid (w3.ownsRow w.heap.size 24 5 u4 GD.length (bcv GD)) := World.ownsRow.kept HPQ2.out.2 hg3 (ob_ne HPQ2.out.1 HPQ2.out.2).1; have HP3 : Hid (w3.ownsRow w.heap.size 5 1 v3 (PB.length + L.length) (cv PB ++ cv L)) := hown3; clear hown3 hb3 hg3 HPQ2 HO2 _t HB2; obtain ⟨z0, z1, z2, z3, z4⟩ := HCE.out w3 HB3.out)
          | (at_builtin; refine wpList_append_bats (by rfl) _ _ rfl w.heap.size w _ _ _ rfl (owns_below HQ3.out (below_box _)) (HB3.out.alloc HB3.out.size _) (Nat.le_trans HB3.out.size (by simp)) _ 1 [⟨⟨base, span, prod, seq, rs⟩, sa, sc⟩] rfl (HNW.out _) (by simp; omega) ?_; intro v4 w4 hown4 hb4 hg4; have HP4 : Hid (w4.ownsRow w.heap.size 5 1 v3 (PB.length + L.length) (cv PB ++ cv L)) := World.ownsRow.kept (owns_below HP3.out (below_box _)) hg4 (ob_ne HP3.out HQ3.out).2; clear z0 z1 z2 z3 z4))
        · go_ret
          exact ⟨rfl, HB9.out⟩
        · rw [HBC'.out _ rfl] at hown4
          exact ⟨⟨k + 1, by omega, by go_num, (HN2.out _ _ _ HP4.out hown4).1, (HN2.out _ _ _ HP4.out hown4).2, hb4⟩, by simp [intOf]; omega⟩
      · rw [show encBR b = [] by unfold encBR; rw [if_neg hc]] at HE
        have HE1 : Hid _ := HE
        clear HE
        have HN2 : Hid (∀ (x : World) p q, x.ownsRow w.heap.size 5 1 p PB.length (cv PB) → x.ownsRow w.heap.size 24 5 q GD.length (bcv GD) → x.ownsRow w.heap.size 5 1 p (pb (gd ss (k + 1))).length (cv (pb (gd ss (k + 1)))) ∧ x.ownsRow w.heap.size 24 5 q (gd ss (k + 1)).length (bcv (gd ss (k + 1)))) := fun x p q h1 h2 => HNX.out x p q ⟨_, rfl, .inr ⟨hc, h1, h2⟩⟩
        have hce : (chkB b == 0) = false := by simpa using hc
        clear HNX hi hl
        generalize chkB b = ck at *
        clear hc
        obtain ⟨base, span, prod, seq, rs⟩ := b
        simp only [bav] at *
        obtain ⟨z0, z1, z2, z3, z4⟩ := HCE.out wr HB0.out
        go_wp2_with (first
          | (go_at_call 11; refine (HSM.out _ (RRow.below HR.out HB0.out)).mono ?_; rintro e w1 ⟨⟨sm, rfl, hsm⟩, hb1'⟩; have HB1 : Hid (Below w.heap.size w w1) := HB0.out.trans (hb1'.mono HB0.out.size); have HPQ1 : Hid (w1.ownsRow w.heap.size 5 1 u3 PB.length (cv PB) ∧ w1.ownsRow w.heap.size 24 5 u4 GD.length (bcv GD)) := ⟨owns_below HPQ.out.1 hb1', owns_below HPQ.out.2.1 hb1'⟩; clear z0 z1 z2 z3 z4 hb1' hsm HPQ HB0; obtain ⟨z0, z1, z2, z3, z4⟩ := HCE.out w1 HB1.out)
          | (go_at_call 12; have _t := HB1; refine (HA.out _ (Tab.below HT.out HB1.out)).mono ?_; rintro e w9 ⟨rfl, hb9⟩; have HB9 : Hid (Below w.heap.size w w9) := HB1.out.trans (hb9.mono HB1.out.size))
          | (go_at_call 13; refine (HE1.out _ (Tab.below HT.out HB1.out) (RRow.below HR.out HB1.out)).mono ?_; rintro e w2 ⟨v2, rfl, ho2, hb2'⟩; have HB2 : Hid (Below w.heap.size w w2) := HB1.out.trans (hb2'.mono HB1.out.size); have HPQ2 : Hid (w2.ownsRow w.heap.size 5 1 u3 PB.length (cv PB) ∧ w2.ownsRow w.heap.size 24 5 u4 GD.length (bcv GD)) := ⟨owns_below HPQ1.out.1 hb2', owns_below HPQ1.out.2 hb2'⟩; clear z0 z1 z2 z3 z4 ho2 hb2' HPQ1 HB1))
        · go_ret
          exact ⟨rfl, HB9.out⟩
        · exact ⟨⟨k + 1, by omega, by go_num, (HN2.out _ _ _ HPQ2.out.1 HPQ2.out.2).1, (HN2.out _ _ _ HPQ2.out.1 HPQ2.out.2).2, HB2.out⟩, by simp [intOf]; omega⟩
    · obtain rfl : k = ss.length := by omega
      have hgl := HGL.out ss.length (Nat.le_refl _)
      have hgm := HGM.out ss.length
      have hpl : ∀ i, (pb (gd ss ss.length)).getD i 0 < 256 := lt_mem (pb_mem (fun s hs => (hgm s hs).1))
      obtain ⟨pa, pc, rfl, hpr, hpc, hpm⟩ := owns_full hp hpl
      obtain ⟨qa, qc, rfl, hqr⟩ := owns_brow hq
      clear hpl hp hq HGY HGN HGL HGM HG0 hk hlt
      generalize gd ss ss.length = G at *
      obtain ⟨W, rfl⟩ : ∃ W, W = wr := ⟨_, rfl⟩
      have HBW : Hid (Below w.heap.size w W) := hbel
      have HQ : Hid (BCells W qa G) := hqr
      have HGM : Hid (∀ s, s ∈ G → chkB s.b = 0 ∧ BaOk w s.b s.a s.cap) := hgm
      have HP : Hid (Row W pa (pb G) ∧ (pb G).length ≤ pc ∧ pc ≤ maxLen) := ⟨hpr, hpc, hpm⟩
      obtain ⟨hg1, hg2⟩ := hgl
      clear hbel hqr hgm hpr hpc hpm HBR
      go_wp2_with fail
      go_loopw [3, 8] (fun p i x => ∃ (j : Nat) (a' : Option Addr) (c' : Nat), j ≤ G.length ∧ i = .int .i64 j ∧ p = .slice a' (pb (G.drop j)).length c' ∧ Row x a' (pb (G.drop j)) ∧ (pb (G.drop j)).length ≤ c' ∧ c' ≤ maxLen ∧ Below W.heap.size W x) (fun _ i _ => G.length - (intOf i).toNat)
      case atStart => exact ⟨0, pa, pc, by omega, rfl, rfl, HP.out.1, HP.out.2.1, HP.out.2.2, Below.refl _ _⟩
      case round =>
        obtain ⟨j, a', c', hj, rfl, rfl, hrow, hlc, hcm, hbel⟩ := hrel
        have HB0 : Hid (Below w.heap.size w wr) := HBW.out.trans (hbel.mono HBW.out.size)
        by_cases hlt : j < G.length
        · have hltI : (j : Int) < (G.length : Int) := by omega
          have hd : G.drop j = G.getD j bsz :: G.drop (j + 1) := by
            rw [List.drop_eq_getElem_cons hlt]
            simp [List.getD, hlt]
          have hmem : G.getD j bsz ∈ G := by
            simp only [List.getD, List.getElem?_eq_getElem hlt, Option.getD_some]
            exact List.getElem_mem hlt
          have hpe : pb (G.drop j) = encBL (G.getD j bsz).b ++ pb (G.drop (j + 1)) := by rw [hd, pb_cons]
          obtain ⟨hchk, hok⟩ := HGM.out _ hmem
          obtain ⟨g0, off, ea, -⟩ := HQ.out j hlt
          have HCE : Hid (∀ x, Below W.heap.size W x → x.cell? ⟨g0, off + j * 5, none⟩ = some (.int .i64 (G.getD j bsz).b.base) ∧ x.cell? ⟨g0, off + j * 5 + 1, none⟩ = some (.int .i64 (G.getD j bsz).b.span) ∧ x.cell? ⟨g0, off + j * 5 + 2, none⟩ = some (.int .i64 (G.getD j bsz).b.prod) ∧ x.cell? ⟨g0, off + j * 5 + 3, none⟩ = some (.int .i64 (G.getD j bsz).b.seq) ∧ x.cell? ⟨g0, off + j * 5 + 4, none⟩ = some (.slice (G.getD j bsz).a (G.getD j bsz).b.rs.length (G.getD j bsz).cap)) := by
            intro x hx
            obtain ⟨g1, off1, e1, q0, q1, q2, q3, q4⟩ := (BCells.below HQ.out hx) j hlt
            rw [ea] at e1
            injection e1 with e1
            injection e1 with e1 e2
            subst e1
            subst e2
            exact ⟨q0, q1, q2, q3, q4⟩
          subst ea
          have hll : (pb (G.drop j)).length ≤ 60000 := by
            have h1 := pb_len (g := G.drop j) (fun s hs => (HGM.out s (List.mem_of_mem_drop hs)).1)
            rw [List.length_drop] at h1
            omega
          clear hd hmem HQ HP
          rw [hpe] at hrow hlc hll ⊢
          clear hpe
          obtain ⟨REST, HRE⟩ : ∃ R, Hid (pb (G.drop (j + 1)) = R) := ⟨_, rfl⟩
          rw [HRE.out] at hrow hlc hll ⊢
          generalize G.getD j bsz = s at *
          obtain ⟨b, sa, sc⟩ := s
          simp only at hchk hok HCE hrow hlc hll ⊢
          obtain ⟨hrr, hi, hl, hnn, -⟩ := hok
          have HR : Hid (RRow w sa b.rs) := hrr
          obtain ⟨o1, o2, o3⟩ := encB_ok (b := b) REST hchk hi
          have HDE : Hid (∀ x, Tab x → Row x a' (encBL b ++ REST) → Calls Tryd.prog 18 #[.slice a' (encBL b ++ REST).length c'] x fun e w' => ∃ a1 c1, e = .returned (.tuple #[bav b a1 c1, .int .i64 ((encBL b).length : Nat), .int .i64 0]) ∧ RRow w' a1 b.rs ∧ Below x.heap.size x w') := by
            intro x q1 q2
            refine (bdecode_any a' c' (encBL b ++ REST) x q1 q2 hlc hcm (by omega)).mono ?_
            rintro e w' ⟨q, _, hb⟩
            obtain ⟨a1, c1, rfl, q5, _⟩ := q o1
            rw [o2] at q5
            exact ⟨a1, c1, by rw [o2, o3], q5, hb⟩
          have HSA : Hid (∀ x a1 c1 a2 c2, RRow x a1 b.rs → RRow x a2 b.rs → Calls Tryd.prog 20 #[bav b a1 c1, bav b a2 c2] x fun e w' => e = .returned (.bool true) ∧ Below x.heap.size x w') := fun x a1 c1 a2 c2 q1 q2 => same_any b a1 c1 a2 c2 x q1 q2 hl
          have hle := encB_len b
          have hL48 : 48 ≤ (encBL b).length := by omega
          have HLL : Hid ((encBL b ++ REST).length = (encBL b).length + REST.length) := List.length_append
          have HRO : Hid (Row wr a' (encBL b ++ REST)) := hrow
          have HDR : Hid ((encBL b ++ REST).drop (encBL b).length = REST) := List.drop_left
          have HDL : Hid ((encBL b ++ REST).length - (encBL b).length = REST.length) := by show _ = _; rw [HLL.out]; omega
          have hlI : (((encBL b).length : Nat) : Int) ≤ (((encBL b ++ REST).length : Nat) : Int) := by rw [HLL.out]; omega
          have hLle : (encBL b).length ≤ (encBL b ++ REST).length := by rw [HLL.out]; omega
          have HLC : Hid ((encBL b ++ REST).length ≤ c' ∧ c' ≤ maxLen) := ⟨hlc, hcm⟩
          clear o1 o2 o3 hle hrow hlc hcm hrr hnn hi hchk
          generalize encBL b ++ REST = M at *
          generalize encBL b = L at *
          have ks : ∀ y, (Instr.slice 27 (.slice a' M.length c') (some (.int .i64 (L.length : Int))) none none).run Tryd.prog y = .ok (.slice (cutA a' c' L.length) (M.length - L.length) (c' - L.length)) y := fun y => run_slice_from y a' M.length c' L.length .i64 hLle
          have hL1 : ¬ (L.length : Int) < 1 := by omega
          have hL1d : decide ((L.length : Int) < 1) = false := decide_eq_false hL1
          have hgt : ¬ (M.length : Int) < (L.length : Int) := by omega
          have hgtn : ¬ M.length < L.length := by omega
          have hgtd : decide (M.length < L.length) = false := decide_eq_false hgtn
          obtain ⟨base, span, prod, seq, rs⟩ := b
          simp only [bav] at *
          have HBE : Hid (Below W.heap.size W wr) := hbel
          clear hbel
          go_wp2_with (first
            | (go_at_call 18; refine (HDE.out _ (Tab.below HT.out HB0.out) HRO.out).mono ?_; rintro e w2 ⟨a2, c2, rfl, hr2, hb2⟩; have HR2 : Hid (RRow w2 a2 rs) := hr2; have HBX : Hid (BxS w2 (bcells ⟨base, span, prod, seq, rs⟩ a2 c2) (w2.alloc (.cells #[.int .i64 base, .int .i64 span, .int .i64 prod, .int .i64 seq, .slice a2 rs.length c2] 24))) := BxS.new w2 _; have HB2 : Hid (Below W.heap.size W w2) := HBE.out.trans (hb2.mono HBE.out.size); have HRO2 : Hid (Row w2 a' M) := Row.below HRO.out hb2; have HB2w : Hid (Below w.heap.size w w2) := HB0.out.trans (hb2.mono HB0.out.size); clear hr2 hb2 HRO HB0 HBE))
          generalize hY : w2.alloc (.cells #[.int .i64 base, .int .i64 span, .int .i64 prod, .int .i64 seq, .slice a2 rs.length c2] 24) = Y at *
          have HBY : Hid (Below w2.heap.size w2 Y) := HBX.out.bel
          have HYW : Hid (Below W.heap.size W Y) := HB2.out.trans (HBY.out.mono HB2.out.size)
          have HSS : Hid (∀ x, BxS w2 (bcells ⟨base, span, prod, seq, rs⟩ a2 c2) x → Below W.heap.size W x → (fun y : World => (y.cell? ⟨w2.heap.size, 0, none⟩ = some (.int .i64 base) ∧ y.cell? ⟨w2.heap.size, 1, none⟩ = some (.int .i64 span) ∧ y.cell? ⟨w2.heap.size, 2, none⟩ = some (.int .i64 prod) ∧ y.cell? ⟨w2.heap.size, 3, none⟩ = some (.int .i64 seq) ∧ y.cell? ⟨w2.heap.size, 4, none⟩ = some (.slice a2 rs.length c2)) ∧ y.cell? ⟨g0, off + j * 5, none⟩ = some (.int .i64 base) ∧ y.cell? ⟨g0, off + j * 5 + 1, none⟩ = some (.int .i64 span) ∧ y.cell? ⟨g0, off + j * 5 + 2, none⟩ = some (.int .i64 prod) ∧ y.cell? ⟨g0, off + j * 5 + 3, none⟩ = some (.int .i64 seq) ∧ y.cell? ⟨g0, off + j * 5 + 4, none⟩ = some (.slice sa rs.length sc)) x) := by
            intro x h1 h2
            obtain ⟨c0, c1, c2', c3, c4, _⟩ := BxS.cells h1
            exact ⟨⟨c0, c1, c2', c3, c4⟩, HCE.out x h2⟩
          have hS0 := HSS.out _ (BxS.below HBX.out ((Below.refl _ _).drew)) (HYW.out.drew)
          go_region_held3 (fun y : World => (y.cell? ⟨w2.heap.size, 0, none⟩ = some (.int .i64 base) ∧ y.cell? ⟨w2.heap.size, 1, none⟩ = some (.int .i64 span) ∧ y.cell? ⟨w2.heap.size, 2, none⟩ = some (.int .i64 prod) ∧ y.cell? ⟨w2.heap.size, 3, none⟩ = some (.int .i64 seq) ∧ y.cell? ⟨w2.heap.size, 4, none⟩ = some (.slice a2 rs.length c2)) ∧ y.cell? ⟨g0, off + j * 5, none⟩ = some (.int .i64 base) ∧ y.cell? ⟨g0, off + j * 5 + 1, none⟩ = some (.int .i64 span) ∧ y.cell? ⟨g0, off + j * 5 + 2, none⟩ = some (.int .i64 prod) ∧ y.cell? ⟨g0, off + j * 5 + 3, none⟩ = some (.int .i64 seq) ∧ y.cell? ⟨g0, off + j * 5 + 4, none⟩ = some (.slice sa rs.length sc)) (first | exact hS4 | exact hS0)
            ((first
              | (go_at_call 20; refine (HSA.out _ _ _ _ _ (RRow.below HR2.out (HBY.out.drew)) (RRow.below HR.out (HB2w.out.trans (HBY.out.drew.mono HB2w.out.size)))).mono ?_; rintro e w4 ⟨rfl, hb4⟩; have HB4 : Hid (Below Y.heap.size Y w4) := (Below.refl _ _).drew.trans hb4; have hS4 := HSS.out _ (BxS.below HBX.out HB4.out) (HYW.out.trans (HB4.out.mono HYW.out.size)))))
          go_wp2_with fail
          exact ⟨⟨j + 1, cutA a' c' L.length, c' - L.length, by omega, by go_num, by rw [HDL.out, HRE.out], by have h := row_cut c' L.length (Row.below HRO2.out (HBY.out.trans (HB4.out.mono HBY.out.size))) HLC.out.1; rw [HDR.out] at h; rw [HRE.out]; exact h, by rw [HRE.out]; have h1 := HLC.out.1; have h2 := HDL.out; omega, by have h1 := HLC.out.2; omega, HYW.out.trans (HB4.out.mono HYW.out.size)⟩, by simp [intOf]; omega⟩
        · obtain rfl : j = G.length := by omega
          have hd : pb (G.drop G.length) = [] := by rw [List.drop_length]; rfl
          rw [hd] at hrow hlc ⊢
          have HDE : Hid (∀ x, Tab x → Calls Tryd.prog 18 #[.slice a' 0 c'] x fun e w' => e = .returned (.tuple #[.agg #[.int .i64 0, .int .i64 0, .int .i64 0, .int .i64 0, .slice none 0 0], .int .i64 0, .int .i64 10]) ∧ Below x.heap.size x w') := by
            intro x q1
            refine (bdecode_any a' c' [] x q1 (Row.nil _ _) (by simp) hcm (by simp)).mono ?_
            rintro e w' ⟨_, q, hb⟩
            exact ⟨q not_ok_nil, hb⟩
          rw [show ([] : List Nat).length = 0 from rfl]
          clear hd hrow hlc hcm HQ HP hlt hj
          go_wp2_with (first
            | (go_at_call 18; refine (HDE.out _ (Tab.below HT.out HB0.out)).mono ?_; rintro e w2 ⟨rfl, hb2⟩; have HB2 : Hid (Below w.heap.size w w2) := HB0.out.trans (hb2.mono HB0.out.size); clear hb2)
            | (go_at_call 12; refine (HA.out _ (Tab.below HT.out (HB2.out.alloc HB2.out.size _))).mono ?_; rintro e w9 ⟨rfl, hb9⟩; have HB9 : Hid (Below w.heap.size w w9) := (HB2.out.alloc HB2.out.size _).trans (hb9.mono (by have := HB2.out.size; simp; omega))))
          go_ret
          exact ⟨rfl, HB9.out⟩
theorem batchRows_walk (a0 : Option Addr) (cap0 : Nat) (l0 : List Bs) (w : World) (ht : Tab w) (w0 : BRow w a0 l0) (m0 : l0.length ≤ maxLen) :
    Calls Tryd.prog 9 #[.slice a0 l0.length cap0] w fun e w' => e = .returned (.bool true) ∧ Below w.heap.size w w' := by
  by_cases h : 10 < l0.length
  · exact rows_long a0 cap0 l0.length w ht h
  · exact rows_some a0 cap0 l0 w ht w0 (by omega)
end Go.Proofs.YtgpeldmplkijlaaDoor
