/- The document's Saw. -/
import Derived.Test.YtnnljdnaipjoiaaMd
import Derived.Test.YtnnljdnaipjoiaaMf
import Derived.Test.YtnnljdnaipjoiaaMg
import Derived.Test.YtnnljdnaipjoiaaRo
import Derived.Deep.DeepCutAuto
import Derived.Deep.CutRange
namespace Go.Proofs.Ytnnljdnaipjoiaa
set_option linter.unusedSimpArgs false
set_option linter.unusedVariables false
open Go.RowKit Go.MapKept
set_option maxHeartbeats 8000000 in
set_option maxRecDepth 100000 in
theorem msaw_walk (B p : Nat) (S : LS) (tp : ByteArray) (pt st nx fr : Int) (a : Option Addr) (cap : Nat) (ss : List Bs) (w : World) (vF vS vP : Value) (FL : List (SK × Rc)) (SL : List (TK × Int)) (PL : List (PK × (Int × Int)))
    (hc : Chk B w p vF vS vP FL SL PL S) (hBw : B ≤ w.heap.size) (hi : ∀ y, MKeep B w y → BIn y a ss) (hpl : PL.length + 1 ≤ 1000000) (hfl : FL.length + (recKs (tp, pt) (bsOf ss)).length ≤ 1000000) (hsl : SL.length + (batKs (tp, pt) (bsOf ss)).length ≤ 1000000) (AP : Ending → World → Prop)
    (HE1 : Hid (fallsB S (tp, pt) st nx = true → ∀ y, Below w.heap.size w y → AP (.returned (.int .i64 1)) y))
    (HE2 : Hid (fallsB S (tp, pt) st nx = false → placedB (bsOf ss) fr st nx = false → ∀ y, Below w.heap.size w y → AP (.returned (.int .i64 2)) y))
    (HE3 : Hid (fallsB S (tp, pt) st nx = false → placedB (bsOf ss) fr st nx = true → agrs sameR S.rc (recKs (tp, pt) (bsOf ss)) (fun _ => none) = none → ∀ y, Chk B y p vF vS vP FL SL PL S → MKeep B w y → AP (.returned (.int .i64 3)) y))
    (HE4 : Hid (fallsB S (tp, pt) st nx = false → placedB (bsOf ss) fr st nx = true → ∀ F, agrs sameR S.rc (recKs (tp, pt) (bsOf ss)) (fun _ => none) = some F → agrs sameI S.bs (batKs (tp, pt) (bsOf ss)) (fun _ => none) = none → ∀ y, Chk B y p vF vS vP FL SL PL S → MKeep B w y → AP (.returned (.int .i64 4)) y))
    (HE0 : Hid (fallsB S (tp, pt) st nx = false → placedB (bsOf ss) fr st nx = true → ∀ F G, agrs sameR S.rc (recKs (tp, pt) (bsOf ss)) (fun _ => none) = some F → agrs sameI S.bs (batKs (tp, pt) (bsOf ss)) (fun _ => none) = some G → ∀ y vf vs vp L M Q, Chk B y p vf vs vp L M Q ⟨fun x => if x = (tp, pt) then some (st, nx) else S.bn x, fun x => (F x).or (S.rc x), fun x => (G x).or (S.bs x)⟩ → MKeep B w y → L.length ≤ FL.length + (recKs (tp, pt) (bsOf ss)).length → M.length ≤ SL.length + (batKs (tp, pt) (bsOf ss)).length → Q.length ≤ PL.length + 1 → AP (.returned (.int .i64 0)) y)) :
    Calls Try.prog 12 #[.pointer (some ⟨p, 0, none⟩), .string tp, .int .i64 pt, .int .i64 st, .int .i64 nx, .int .i64 fr, .slice a ss.length cap] w fun e w' => AP e w' := by
  have HC : Hid (∀ y, Below w.heap.size w y → Chk B y p vF vS vP FL SL PL S) := fun y hb => hc.below hb
  have HCP : Hid (∀ y, Below w.heap.size w y → Calls Try.prog 33 #[.int .i64 st, .int .i64 nx, .int .i64 fr, .slice a ss.length cap] y fun e w' => e = .returned (.bool (placedB (bsOf ss) fr st nx)) ∧ Below w.heap.size w w') := fun y hb => (rows_any a cap ss fr st nx y (hi y (MKeep.of_below hb))).mono fun e z ⟨h1, h2⟩ => ⟨h1, hb.trans (h2.mono hb.size)⟩
  have HDP : Hid (Dist PL) := hc.dP
  have HFP : Hid (∀ x, asF PL x = S.bn x) := hc.fP
  have HBI : Hid (∀ y, MKeep B w y → BIn y a ss) := hi
  have HFL : Hid (FL.length + (recKs (tp, pt) (bsOf ss)).length ≤ 1000000) := hfl
  have HSL : Hid (SL.length + (batKs (tp, pt) (bsOf ss)).length ≤ 1000000) := hsl
  have hsl0 := (hi w (MKeep.refl B w)).len
  unfold maxLen at hsl0
  obtain ⟨g, cp, hv⟩ := own_slice hc.oP
  subst hv
  obtain ⟨gF, cpF, hvF⟩ := own_slice hc.oF
  subst hvF
  obtain ⟨gS, cpS, hvS⟩ := own_slice hc.oS
  subst hvS
  have hc0 := hc
  clear hc hi hfl hsl
  obtain ⟨PB, HPB⟩ : ∃ PB, Hid (placedB (bsOf ss) fr st nx = PB) := ⟨_, rfl⟩
  rw [HPB.out] at HE2 HE3 HE4 HE0 HCP
  obtain ⟨FB, HFB⟩ : ∃ FB, Hid (fallsB S (tp, pt) st nx = FB) := ⟨_, rfl⟩
  rw [HFB.out] at HE1 HE2 HE3 HE4 HE0
  go_enter Try.func12, Try.ntmps12
  go_wp2_with fail
  refine sp_loop hc0 HDP.out hpl (fun y16 y29 y30 y31 y32 y33 y34 y35 y36 y37 y38 y39 y40 y41 y42 y43 y44 y45 y46 y47 y48 y49 y50 y51 y52 y53 y54 y55 y56 y57 y58 y59 y60 x wr hpos hb => ?_)
  have HX : Hid _ := hpos.fun HDP.out
  have hck := HC.out wr hb
  obtain ⟨c0, c1, c2, c3⟩ := hck.cells
  clear hc0 hpos
  go_upto_region 7 with fail
  go_cut [91] (fun s91 wc => wr = wc ∧ s91 = .bool FB)
  case first =>
    as_aux_lemma =>
      rcases HX.out with ⟨rfl, hn⟩ | ⟨j, y, hj1, rfl, hy, hyk, hn⟩
      · have HR : Hid (FB = decide (nx < st)) := by
          show _ = _
          have h := HFB.out
          unfold fallsB at h
          rw [← HFP.out, hn] at h
          simpa using h.symm
        clear hn
        have hjd : decide ((0 : Int) ≤ -1) = false := by decide
        by_cases h1 : nx < st
        · have h1d : decide (nx < st) = true := decide_eq_true h1
          go_wp2
          go_meet
          case rel => exact ⟨rfl, by rw [HR.out, h1d]⟩
        · have h1d : decide (nx < st) = false := decide_eq_false h1
          go_wp2
          go_meet
          case rel => exact ⟨rfl, by rw [HR.out, h1d]⟩
      · obtain ⟨⟨t, q⟩, s0, n0⟩ := y
        have HR : Hid (FB = ((decide (st < s0) || decide (nx < n0)) || decide (nx < st))) := by
          show _ = _
          have h := HFB.out
          unfold fallsB at h
          rw [← HFP.out, hn] at h
          simpa using h.symm
        obtain ⟨g', cap', e, hBg, hgl, hcell⟩ := own_rowv cP 4 cP_len hck.oP (by omega)
        simp only [Value.slice.injEq, true_and] at e
        obtain ⟨rfl, rfl⟩ := e
        have d2 := hcell j _ hy 2 _ rfl
        have d3 := hcell j _ hy 3 _ rfl
        clear hn hy hyk hck hcell
        have hjI : (j : Int) < (PL.length : Int) := by omega
        have hj0 : decide ((0 : Int) ≤ (j : Int)) = true := decide_eq_true (by omega)
        by_cases h1 : nx < st
        · have h1d : decide (nx < st) = true := decide_eq_true h1
          go_wp2
          go_meet
          case rel => exact ⟨rfl, by rw [HR.out, h1d]; simp⟩
        · have h1d : decide (nx < st) = false := decide_eq_false h1
          by_cases h2 : st < s0
          · have h2d : decide (st < s0) = true := decide_eq_true h2
            go_wp2
            go_meet
            case rel => exact ⟨rfl, by rw [HR.out, h2d]; simp⟩
          · have h2d : decide (st < s0) = false := decide_eq_false h2
            by_cases h3 : nx < n0
            · have h3d : decide (nx < n0) = true := decide_eq_true h3
              go_wp2
              go_meet
              case rel => exact ⟨rfl, by rw [HR.out, h3d]; simp⟩
            · have h3d : decide (nx < n0) = false := decide_eq_false h3
              go_wp2
              go_meet
              case rel => exact ⟨rfl, by rw [HR.out, h1d, h2d, h3d]; simp⟩
  case rest =>
    obtain ⟨rfl, rfl⟩ := hcut
    have HB : Hid (Below w.heap.size w wr) := hb
    clear hb c0 c1 c2 c3 hck
    cases FB with
    | true =>
      have HA := HE1.out (by first | rfl | trivial) wr HB.out
      go_wp2
      exact HA
    | false =>
      go_upto_region 9 with fail
      go_cut [97] (fun s97 wc => Below w.heap.size w wc ∧ s97 = .bool (!PB))
      case first =>
        go_wp2_with (go_at_call 33; refine (HCP.out _ HB.out).mono ?_; rintro e w2 ⟨rfl, hb2⟩; have HB2 : Hid (Below w.heap.size w w2) := hb2; clear hb2)
        go_meet
        case rel => exact ⟨HB2.out, rfl⟩
      case rest =>
        obtain ⟨hbc, rfl⟩ := hcut
        generalize wc = w2 at *
        have HB2 : Hid (Below w.heap.size w w2) := hbc
        clear hbc HCP
        cases PB with
        | false =>
          have HA := HE2.out (by first | rfl | trivial) (by first | rfl | trivial) w2 HB2.out
          go_wp2
          exact HA
        | true =>
          have hck := HC.out w2 HB2.out
          obtain ⟨c0, c1, c2, c3⟩ := hck.cells
          have HF0 : Hid (FSt B w p (.slice gF FL.length cpF) (.slice gS SL.length cpS) (.slice g PL.length cp) FL SL PL S [] (.slice gF FL.length cpF) FL (fun _ => none) w2) := FSt.start hck (MKeep.of_below HB2.out)
          replace HE3 : Hid (agrs sameR S.rc (recKs (tp, pt) (bsOf ss)) (fun _ => none) = none → ∀ y, Chk B y p (.slice gF FL.length cpF) (.slice gS SL.length cpS) (.slice g PL.length cp) FL SL PL S → MKeep B w y → AP (.returned (.int .i64 3)) y) := HE3.out (by first | rfl | trivial) (by first | rfl | trivial)
          replace HE4 := HE4.out (by first | rfl | trivial) (by first | rfl | trivial)
          replace HE4 : Hid _ := HE4
          replace HE0 := HE0.out (by first | rfl | trivial) (by first | rfl | trivial)
          replace HE0 : Hid _ := HE0
          clear HE1 HE2 hck
          go_wp2
          refine fi_loop HF0.out hBw HBI.out HFL.out (fun w14 w19 w20 w21 w22 w23 w24 w106 w107 w108 w109 w110 w111 w112 w113 w114 w115 w116 w117 w118 w119 w120 w121 w122 w123 w124 w125 w126 w127 w128 w129 w130 w131 w132 w133 w134 w135 w136 w137 w138 w139 w140 w141 w142 w143 w144 w145 w146 w147 w148 w149 w150 w151 w152 w153 w154 w155 w156 w157 w158 w159 w160 w161 w162 w163 w164 w165 w166 w167 w168 w169 w170 w171 w172 w173 w174 w175 w176 w177 w178 w179 w180 w181 w182 w183 w184 w185 w186 w187 w188 w189 v' L f y hF => ?_) (fun w17 w19 w20 w21 w22 w23 w24 w106 w107 w108 w109 w110 w111 w112 w113 w114 w115 w116 w117 w118 w119 w120 w121 w122 w123 w124 w125 w126 w127 w128 w129 w130 w131 w132 w133 w134 w135 w136 w137 w138 w139 w140 w141 w142 w143 w144 w145 w146 w147 w148 w149 w150 w151 w152 w153 w154 w155 w156 w157 w158 w159 w160 w161 w162 w163 w164 w165 w166 w167 w168 w169 w170 w171 w172 w173 w174 w175 w176 w177 w178 w179 w180 w181 w182 w183 w184 w185 w186 w187 w188 w189 y hag hck hk => ?_)
          · have HF : Hid (FSt B w p (.slice gF FL.length cpF) (.slice gS SL.length cpS) (.slice g PL.length cp) FL SL PL S (recKs (tp, pt) (bsOf ss)) v' L f y) := hF
            clear hF
            obtain ⟨gv, cv, hv'⟩ := own_slice HF.out.cur
            subst hv'
            go_wp2
            refine si_loop (SSt.start HF.out) hBw HBI.out HSL.out (fun c a d v w h => by cases d <;> exact h) (fun x14 x25 x26 x27 x28 x190 x191 x192 x193 x194 x195 x196 x197 x198 x199 x200 x201 x202 x203 x204 x205 x206 x207 x208 x209 x210 x211 x212 x213 x214 x215 x216 x217 x218 x219 x220 x221 x222 x223 x224 x225 x226 x227 x228 x229 x230 x231 x232 x233 x234 x235 x236 x237 x238 x239 x240 x241 x242 x243 x244 x245 x246 x247 x248 x249 x250 x251 x252 x253 x254 x255 x256 x257 x258 x259 x260 x261 x262 x263 x264 x265 x266 x267 x268 x269 x270 x271 x272 vd M g2 y2 hG => ?_) (fun x18 x25 x26 x27 x28 x190 x191 x192 x193 x194 x195 x196 x197 x198 x199 x200 x201 x202 x203 x204 x205 x206 x207 x208 x209 x210 x211 x212 x213 x214 x215 x216 x217 x218 x219 x220 x221 x222 x223 x224 x225 x226 x227 x228 x229 x230 x231 x232 x233 x234 x235 x236 x237 x238 x239 x240 x241 x242 x243 x244 x245 x246 x247 x248 x249 x250 x251 x252 x253 x254 x255 x256 x257 x258 x259 x260 x261 x262 x263 x264 x265 x266 x267 x268 x269 x270 x271 x272 y2 hag2 hck hk => ?_)
            · have HG : Hid (SSt B w p (.slice gF FL.length cpF) (.slice gS SL.length cpS) (.slice g PL.length cp) FL SL PL S (.slice gv L.length cv) L f (batKs (tp, pt) (bsOf ss)) vd M g2 y2) := hG
              clear hG
              obtain ⟨gd, cd, hvd⟩ := own_slice HG.out.cur
              subst hvd
              have HZ : Hid (Chk B ((y2.setCell ⟨p, 0, none⟩ (.slice gv L.length cv)).setCell ⟨p, 1, none⟩ (.slice gd M.length cd)) p (.slice gv L.length cv) (.slice gd M.length cd) (.slice g PL.length cp) L M PL ⟨S.bn, fun x => (f x).or (S.rc x), fun x => (g2 x).or (S.bs x)⟩ ∧ MKeep B w ((y2.setCell ⟨p, 0, none⟩ (.slice gv L.length cv)).setCell ⟨p, 1, none⟩ (.slice gd M.length cd))) := by
                have h1 := HG.out.old.setF HG.out.curF HG.out.repF.dist (K := fun x => (f x).or (S.rc x)) HG.out.repF.done
                have h2 := own_setBox HG.out.cur HG.out.old.box (by decide) 0 (.slice gv L.length cv)
                have h3 := h1.setS h2 HG.out.rep.dist (K := fun x => (g2 x).or (S.bs x)) HG.out.rep.done
                exact ⟨h3, (HG.out.keep.setBox HG.out.old.box HG.out.old.hp 0 (.slice gv L.length cv)).setBox h1.box h1.hp 1 (.slice gd M.length cd)⟩
              obtain ⟨q0, q1, q2, q3⟩ := HG.out.old.cells
              have hq0 := q3 0
              have hq1 := q3 1
              clear q3
              go_upto_if 282 with fail
              have HEND : Hid (∀ z vp Q, Chk B z p (.slice gv L.length cv) (.slice gd M.length cd) vp L M Q ⟨fun x => if x = (tp, pt) then some (st, nx) else S.bn x, fun x => (f x).or (S.rc x), fun x => (g2 x).or (S.bs x)⟩ → MKeep B w z → Q.length ≤ PL.length + 1 → AP (.returned (.int .i64 0)) z) := fun z vp Q h1 h2 h3 => HE0.out f g2 HF.out.ag HG.out.ag z (.slice gv L.length cv) (.slice gd M.length cd) vp L M Q h1 h2 HF.out.cnt HG.out.cnt h3
              clear q0 q1 q2 hq0 hq1
              generalize (y2.setCell ⟨p, 0, none⟩ (.slice gv L.length cv)).setCell ⟨p, 1, none⟩ (.slice gd M.length cd) = z at *
              obtain ⟨z0, z1, z2, z3⟩ := HZ.out.1.cells
              have hz2 := z3 2
              clear z3 HG HF HE3 HE4 HE0
              rcases HX.out with ⟨rfl, hn⟩ | ⟨j, y3, hj1, rfl, hy, hyk, hn⟩
              · have HN : Hid (asF PL (tp, pt) = none) := hn
                clear hn
                have HCA : Hid (Chk B (z.alloc (.cells #[.string tp, .int .i64 pt, .int .i64 st, .int .i64 nx] 88)) p (.slice gv L.length cv) (.slice gd M.length cd) (.slice g PL.length cp) L M PL ⟨S.bn, fun x => (f x).or (S.rc x), fun x => (g2 x).or (S.bs x)⟩ ∧ MKeep B w (z.alloc (.cells #[.string tp, .int .i64 pt, .int .i64 st, .int .i64 nx] 88))) := ⟨HZ.out.1.below (below_box _), HZ.out.2.trans (MKeep.of_below (below_box _))⟩
                have HNW : Hid (∀ (j : Nat) (u : Value), (cP ((tp, pt), (st, nx)))[j]? = some u → (z.alloc (.cells #[.string tp, .int .i64 pt, .int .i64 st, .int .i64 nx] 88)).cell? ((⟨z.heap.size, 0, none⟩ : Addr).add j) = some u) := by
                  intro j u hj
                  rw [Addr.add_lit, cell_of_row _ _ _ _ _ _ (heap_alloc_new z _)]
                  simpa [cP] using hj
                have HBA : Hid (B ≤ (z.alloc (.cells #[.string tp, .int .i64 pt, .int .i64 st, .int .i64 nx] 88)).heap.size) := by
                  have h1 := HCA.out.2.size
                  show _ ≤ _
                  omega
                have hm1 : decide ((-1 : Int) < 0) = true := by decide
                go_wp2_with (at_builtin; refine wpList_app_cP (by rfl) _ _ rfl B (.slice g PL.length cp) PL.length (rowv cP PL) rfl HCA.out.1.oP HBA.out ⟨z.heap.size, 0, none⟩ 1 ((tp, pt), (st, nx)) rfl HNW.out hpl ?_; intro vp z4 ha; have HAP : Hid (ApK 4 B 88 (z.alloc (.cells #[.string tp, .int .i64 pt, .int .i64 st, .int .i64 nx] 88)) (.slice g PL.length cp) PL.length (rowv cP PL) (cP ((tp, pt), (st, nx))) vp z4) := ha; obtain ⟨gp, cpp, hvp⟩ := own_slice ha.1; subst hvp; have hb4 : z4.heap[p]? = some (.cells #[(.slice gv L.length cv), (.slice gd M.length cd), .slice g PL.length cp] 32 (0, 0)) := (ha.2.1.block p HCA.out.1.lt (fun e => own_box HCA.out.1.oP HCA.out.1.box (by decide) e.symm)).trans HCA.out.1.box; have hc4 := cell_of_row _ _ 2 _ _ _ hb4; have hf4 := frozen_cells (i := 2) hb4; have HB4 : Hid (z4.heap[p]? = some (.cells #[(.slice gv L.length cv), (.slice gd M.length cd), .slice g PL.length cp] 32 (0, 0))) := hb4; clear hb4 ha)
                exact HEND.out _ _ _ (HCA.out.1.appP HN.out HAP.out) ((HCA.out.2.step HAP.out.2.1 (own_mine HCA.out.1.oP (.inr (.inl rfl)))).setBox HB4.out HCA.out.1.hp 2 _) (by simp)
              · obtain ⟨⟨t, q⟩, s0, n0⟩ := y3
                injection hyk with h1 h2
                subst h1
                subst h2
                obtain ⟨g', cap', e, hBg, hgl, hcell⟩ := own_rowv cP 4 cP_len HZ.out.1.oP (by omega)
                simp only [Value.slice.injEq, true_and] at e
                obtain ⟨rfl, rfl⟩ := e
                have d2 := hcell j _ hy 2 _ rfl
                have d3 := hcell j _ hy 3 _ rfl
                have hfd := World.ownsRow.frozenAt HZ.out.1.oP (j * 4 + 2)
                have HTP : Hid _ := HZ.out.1.turnP hy st nx
                have HPG : Hid (p ≠ g') := fun e => by
                  have h := own_box HZ.out.1.oP HZ.out.1.box (by decide)
                  exact h (by rw [e]; rfl)
                have e51 : (z.setCell ⟨g', j * 4 + 2, none⟩ (.int .i64 st)).cell? ⟨p, 2, none⟩ = some (.slice (some ⟨g', 0, none⟩) PL.length cp) := (World.cell?_of_block (w := z) (a := ⟨p, 2, none⟩) (Below.heap_setCell _ _ _ _ (fun e => HPG.out e))).trans z2
                have hst := (World.ownsRow.stored HZ.out.1.oP (j * 4 + 2) (.int .i64 st)).1
                have e52 : (z.setCell ⟨g', j * 4 + 2, none⟩ (.int .i64 st)).cell? ⟨g', j * 4 + 3, none⟩ = some (.int .i64 n0) := by
                  rw [World.ownsRow.cellAt hst (j * 4 + 3) (by omega), List.getElem?_set, if_neg (by omega)]
                  exact rowv_get cP 4 cP_len PL j 3 _ hy (by decide)
                have e53 := World.ownsRow.frozenAt hst (j * 4 + 3)
                have hjI : (j : Int) < (PL.length : Int) := by omega
                have hj0 : decide ((j : Int) < 0) = false := decide_eq_false (by omega)
                have HL2 : Hid ((PL.set j ((t, q), (st, nx))).length ≤ PL.length + 1) := by show _ ≤ _; rw [List.length_set]; omega
                have HM2 : Hid (MKeep B w ((z.setCell ⟨g', j * 4 + 2, none⟩ (.int .i64 st)).setCell ⟨g', j * 4 + 3, none⟩ (.int .i64 nx))) := HZ.out.2.step HTP.out.2 (fun b e => by
                  injection e with e
                  subst e
                  exact own_mine HZ.out.1.oP (.inr (.inl rfl)) _ rfl)
                clear hst hn hy hcell
                go_wp2
                exact HEND.out _ _ _ HTP.out.1 HM2.out HL2.out
            · have HA := HE4.out _ HF.out.ag hag2 y2 hck hk
              clear hag2 hck hk
              go_wp2
              exact HA
          · have HA := HE3.out hag y hck hk
            clear hag hck hk
            go_wp2
            exact HA
end Go.Proofs.Ytnnljdnaipjoiaa
