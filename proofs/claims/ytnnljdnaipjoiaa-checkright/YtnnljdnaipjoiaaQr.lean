/- The document's partition: Compact, the loop over a batch's records. -/
import Derived.Test.YtnnljdnaipjoiaaQp
import Derived.Test.YtnnljdnaipjoiaaQq
import Derived.Test.YtnnljdnaipjoiaaLat
namespace Go.Proofs.Ytnnljdnaipjoiaa
set_option linter.unusedSimpArgs false
set_option linter.unusedVariables false
open Go.RowKit
theorem run_app_rec {w : World} (B ty : Nat) (v : Value) (l m : List Rc) (hown : w.ownsRow B 48 6 v l.length (rcv l)) (hBs : B ≤ w.heap.size) (ad : Addr) (cap : Nat) (hr : RRow w (some ad) m) (h63 : l.length + m.length ≤ 100000) :
    ∃ v' w', (Builtin.append_ #[50, 50] ty #[v, .slice (some ad) m.length cap]).run Try.prog w = .ok v' w' ∧ w'.ownsRow B 48 6 v' (l ++ m).length (rcv (l ++ m)) ∧ w.grownBy w' v.ownBlock := by
  obtain ⟨i, hi, hz, hs, hb⟩ := info_get Try.info48z Try.info48b
  obtain ⟨v', w', h1, h2, h3, _⟩ := run_append_own (P := Try.prog) w B 50 ty 48 i _ 6 64 Try.underlying50 hi hz hs hb rfl (by decide) v l.length (rcv l) hown ad m.length cap (rcv m) (rcv_len m) (rrow_news hr) (rcv_one m) (by unfold maxLen; omega) (by omega) hBs
  exact ⟨v', w', h1, by rw [List.length_append, rcv_app]; exact h2, h3⟩
theorem wp_app_rec {w : World} {o : Oper} {a : Act} {Q : Exit → Act → World → Prop} {K : Act → World → Prop} (s x : Operand) (ho : o.op = .call { callee := .builtin .append, args := #[s, x], argTypes := #[50, 50] }) (B : Nat)
    (v : Value) (l m : List Rc) (hs : a.eval s = v) (hown : w.ownsRow B 48 6 v l.length (rcv l)) (hBs : B ≤ w.heap.size)
    (ad : Addr) (n cap : Nat) (hx : a.eval x = .slice (some ad) n cap) (hm : n = m.length) (hr : RRow w (some ad) m) (h63 : l.length + m.length ≤ 100000)
    (h : ∀ v' w', w'.ownsRow B 48 6 v' (l ++ m).length (rcv (l ++ m)) → w.grownBy w' v.ownBlock → K (a.put o.dst v') w') : o.wp Try.prog a w K Q := by
  subst hm
  obtain ⟨v', w', hr1, h2, h3⟩ := run_app_rec B o.type v l m hown hBs ad cap hr h63
  unfold Oper.wp execOp
  simp only [ho, resolve, invoke, builtin, Sem.run_bind, Sem.run_pure, Result.andThen_ok, List.map_toArray, List.map_cons, List.map_nil, hs, hx, hr1]
  exact h v' w' h2 h3
theorem wpList_app_rec {w : World} {ops : Array Oper} {rest : List Oper} {o : Oper} {a : Act} {Q : Exit → Act → World → Prop} (hw : Region.wanted o (yielded ops a.tmps) = true) (s x : Operand) (ho : o.op = .call { callee := .builtin .append, args := #[s, x], argTypes := #[50, 50] }) (B : Nat)
    (v : Value) (l m : List Rc) (hs : a.eval s = v) (hown : w.ownsRow B 48 6 v l.length (rcv l)) (hBs : B ≤ w.heap.size)
    (ad : Addr) (n cap : Nat) (hx : a.eval x = .slice (some ad) n cap) (hm : n = m.length) (hr : RRow w (some ad) m) (h63 : l.length + m.length ≤ 100000)
    (h : ∀ v' w', w'.ownsRow B 48 6 v' (l ++ m).length (rcv (l ++ m)) → w.grownBy w' v.ownBlock → wpList Try.prog ops Q rest (a.put o.dst v') w') : wpList Try.prog ops Q (o :: rest) a w := by
  refine BigFrame.wpList_want hw fun K hK => ?_
  exact wp_app_rec s x ho B v l m hs hown hBs ad n cap hx hm hr h63 fun v' w' q1 q2 => hK _ _ (h v' w' q1 q2)
theorem owns_rslice {w : World} {B : Nat} {v : Value} {rs : List Rc} (h : w.ownsRow B 48 6 v rs.length (rcv rs)) : ∃ a c, v = .slice a rs.length c := by
  obtain ⟨a, c, e, _⟩ := owns_rrow h
  exact ⟨a, c, e⟩
theorem rsnoc_sub {acc rs : List Rc} {k : Nat} (h : List.Sublist acc (rs.take k)) (hk : k < rs.length) : List.Sublist (acc ++ [rs.getD k rz]) (rs.take (k + 1)) := by
  rw [List.take_succ_eq_append_getElem hk]
  simp only [List.getD, List.getElem?_eq_getElem hk, Option.getD_some]
  exact h.append (List.Sublist.refl _)
theorem rtake_sub {acc rs : List Rc} {k : Nat} (h : List.Sublist acc (rs.take k)) : List.Sublist acc (rs.take (k + 1)) := h.trans (List.take_sublist_take_left (by omega))
/-- What Compact tells and leaves. -/
def CompE (B p : Nat) (seg : Int) (r off cap : Nat) (L : List Sg) (y : World) (e : Ending) (z : World) : Prop :=
  BoolE e ∧ PKeep B y z ∧ (PIs B p seg r off cap L z ∨ ∃ i s, i + 1 < L.length ∧ s.base = (L.getD i sgz).base ∧ Thin (bsOf s.ss) (bsOf (L.getD i sgz).ss) ∧ PIs B p seg r off cap (L.set i s) z)
theorem PIs.froz {B p : Nat} {seg : Int} {r off cap : Nat} {L : List Sg} {y : World} (h : PIs B p seg r off cap L y) (i : Nat) : y.frozen? ⟨r, i, none⟩ = false := by
  obtain ⟨cur, q1, _⟩ := h.ptr
  exact frozen_cells q1
/-- Compact has put a segment anew. -/
theorem comp_done {B p : Nat} {seg : Int} {r off cap : Nat} {L : List Sg} {y z : World} (hy : PIs B p seg r off cap L y) (hb : Below y.heap.size y z) {i B' : Nat} (hi : i + 1 < L.length) {aL : Option Addr} {cL : Nat} {acc : List Bs}
    (ho : z.ownsRow B' 61 5 (.slice aL acc.length cL) acc.length (bcv acc)) (hB' : y.heap.size ≤ B') (hbat : ∀ b ∈ acc, BatIs z b) (hth : Thin (bsOf acc) (bsOf (L.getD i sgz).ss)) (hl : acc.length ≤ 100) :
    CompE B p seg r off cap L y (.returned (.bool true)) ((z.alloc (.cells #[.int .i64 (L.getD i sgz).base, .slice aL acc.length cL] 96)).setCell ⟨r, off + i, none⟩ (.pointer (some ⟨z.heap.size, 0, none⟩))) := by
  have hbz : Below y.heap.size y (z.alloc (.cells #[.int .i64 (L.getD i sgz).base, .slice aL acc.length cL] 96)) := hb.alloc hb.size _
  have hla := hy.seg (L.length - 1) (by omega)
  have hBy := hy.B_le
  have hzs := hb.size
  have hs : SgIs B (z.alloc (.cells #[.int .i64 (L.getD i sgz).base, .slice aL acc.length cL] 96)) ⟨z.heap.size, (L.getD i sgz).base, aL, cL, acc⟩ :=
    ⟨by simp only; omega, heap_alloc_new z _, own_keep ho (below_box _) (by omega), fun k hk => (hbat _ (bget_mem hk)).below (below_box _), hl⟩
  obtain ⟨q1, q2⟩ := (hy.below hbz).put i hi ⟨z.heap.size, (L.getD i sgz).base, aL, cL, acc⟩ hs ⟨fun e => by
      have h1 : (lastS L).g < y.heap.size := (Array.getElem?_eq_some_iff.1 hla.box).1
      simp only at e
      omega, fun x hx e => by
      have h1 : x < y.heap.size := (own_hasT hla.own x hx).lt
      have h2 := (ho.lt x e).1
      omega⟩
  exact ⟨⟨true, rfl⟩, (PKeep.of_below hbz).trans q2, .inr ⟨i, ⟨z.heap.size, (L.getD i sgz).base, aL, cL, acc⟩, hi, rfl, hth, q1⟩⟩
set_option maxHeartbeats 8000000 in
set_option maxRecDepth 100000 in
theorem compact_any {B p : Nat} {seg : Int} {r off cap : Nat} {L : List Sg} {y : World} (h : PIs B p seg r off cap L y) (now : Int) : Calls Try.prog 16 #[.pointer (some ⟨p, 0, none⟩), .int .i64 now] y fun e z => CompE B p seg r off cap L y e z := by
  have HP : Hid (∀ z, Below y.heap.size y z → PIs B p seg r off cap L z) := fun z hb => h.below hb
  have hl := h.len
  have hpos := h.pos
  have hcl := h.cap1
  have HBT : Hid (∀ b ∈ flatB L, BatIs y b) := h.bats
  have hfl := h.flat_len
  have HNO : Hid (∀ z v, Below y.heap.size y z → CompE B p seg r off cap L y (.returned (.bool v)) z) := fun z v hb => ⟨⟨v, rfl⟩, PKeep.of_below hb, .inl (h.below hb)⟩
  have HAL : Hid (Calls Try.prog 37 #[.pointer (some ⟨p, 0, none⟩)] y fun e z => AllE L y e z) := all_any h
  have HY0 : Hid (PIs B p seg r off cap L y) := h
  clear h
  go_enter Try.func16, Try.ntmps16
  go_wp2_with (go_at_call 37; refine Calls.mono HAL.out ?_; rintro e w1 ⟨aF, cF, rfl, hcF, _, hb1⟩)
  have HW1 : Hid (Below y.heap.size y w1) := hb1
  have HST : Hid (∀ (z : World) (i c : Nat), Below w1.heap.size w1 z → i < (flatB L).length → c < ((flatB L).getD i bsz).b.rs.length → Calls Try.prog 38 #[.pointer (some ⟨p, 0, none⟩), .slice aF (flatB L).length cF, .int .i64 i, .int .i64 c, .int .i64 now] z fun e z' => BoolE e ∧ Below z.heap.size z z') := fun z i c hb hi hc => by
    have hyz := hb1.trans (hb.mono hb1.size)
    exact stays_l p aF cF (flatB L) i c now z (HP.out z hyz).cells.2.2.2.2.1 (hcF.below hb) (fun j hj => by
      have q := (HBT.out _ (bget_mem hj)).below hyz
      exact ⟨q.row.1, q.len⟩) hfl hi hc
  clear hcF hb1 HAL
  go_loopw [6, 7] (fun i s wr => ∃ k : Nat, k + 1 ≤ L.length ∧ s = .int .i64 k ∧ i = .int .i64 ((flatB (L.take k)).length : Nat) ∧ Below w1.heap.size w1 wr) (fun _ s _ => L.length - (intOf s).toNat)
  case atStart => exact ⟨0, by omega, rfl, by simp [flatB], Below.refl _ _⟩
  case round =>
    obtain ⟨s, hs, rfl, rfl, hb⟩ := hrel
    generalize wr = wo at *
    have hby := HW1.out.trans (hb.mono HW1.out.size)
    have hp := HP.out wo hby
    obtain ⟨z0, z1, z2, z3, z4, c5, cf⟩ := hp.cells
    have hw1 : IntKind.i64.wrap ((s : Int) + 1) = (s : Int) + 1 := by rw [IntKind.wrap_i64]; omega
    by_cases hlt : s + 1 < L.length
    · have hltI : (s : Int) + 1 < (L.length : Int) := by omega
      have hltJ : (s : Int) < (L.length : Int) := by omega
      have hat := hp.at s (by omega)
      have HSG : Hid (∀ z, Below y.heap.size y z → SgIs B z (L.getD s sgz)) := fun z hz => (HP.out z hz).seg s (by omega)
      have hsl := (HSG.out wo hby).len
      have HFA : Hid (∀ k, k < (L.getD s sgz).ss.length → (flatB (L.take s)).length + k < (flatB L).length ∧ (flatB L).getD ((flatB (L.take s)).length + k) bsz = (L.getD s sgz).ss.getD k bsz) := fun k hk => flat_at L s k (by omega) hk
      have HFN : Hid ((flatB (L.take (s + 1))).length = (flatB (L.take s)).length + (L.getD s sgz).ss.length) := by show _ = _; rw [flatB_snoc L s (by omega), List.length_append]
      have hn0 : (flatB (L.take s)).length ≤ 10000 := by
        by_cases e : 0 < (L.getD s sgz).ss.length
        · have := (HFA.out 0 e).1; omega
        · have h1 := flatB_len L (fun i hi => (hp.seg i hi).len) s (by omega)
          omega
      generalize HSg : L.getD s sgz = sg at *
      generalize (flatB (L.take s)).length = n0 at *
      obtain ⟨s0, s1⟩ := (HSG.out wo hby).cells
      have HWR : Hid (Below w1.heap.size w1 wo) := hb
      clear hp hb
      go_wp2_with fail
      clear z0 z1 z2 z3 z4 c5 cf hat s0 s1
      go_loopw [6, 8, 9, 10] (fun i l gn k wz => ∃ (k' : Nat) (acc : List Bs) (bg : Bool), k' ≤ sg.ss.length ∧ k = .int .i64 k' ∧ i = .int .i64 ((n0 + k' : Nat) : Int) ∧ gn = .bool bg ∧ wz.ownsRow wo.heap.size 61 5 l acc.length (bcv acc) ∧ Thin (bsOf acc) (bsOf (sg.ss.take k')) ∧ (∀ b ∈ acc, BatIs wz b) ∧ acc.length ≤ k' ∧ Below wo.heap.size wo wz) (fun _ _ _ k _ => sg.ss.length - (intOf k).toNat)
      case atStart => exact ⟨0, [], false, by omega, rfl, by simp, rfl, World.ownsRow_nil _ _ _ _, rfl, fun b hb => by simp at hb, by simp, Below.refl _ _⟩
      case round =>
        obtain ⟨k, acc, bg, hk, rfl, rfl, rfl, hown, hthin, hbat, hal, hb⟩ := hrel
        generalize wr = wz at *
        obtain ⟨aA, cA, rfl, _, _⟩ := owns_bslice hown
        have hbw1 := HWR.out.trans (hb.mono HWR.out.size)
        have hby := HW1.out.trans (hbw1.mono HW1.out.size)
        have hp := HP.out wz hby
        obtain ⟨z0, z1, z2, z3, z4, c5, cf⟩ := hp.cells
        have hat := hp.at s (by omega)
        have hfr := hp.froz (off + s)
        rw [HSg] at hat
        obtain ⟨s0, s1⟩ := (HSG.out wz hby).cells
        by_cases hlt2 : k < sg.ss.length
        · have hltK : (k : Int) < (sg.ss.length : Int) := by omega
          obtain ⟨hf1, hf2⟩ := HFA.out k hlt2
          obtain ⟨g, goff, ha, c0, c1, c2, c3, c4⟩ := (HSG.out wz hby).row k hlt2
          have hbk := (HSG.out wz hby).bat k hlt2
          rw [ha] at s1
          have HTK : Hid (bsOf (sg.ss.take (k + 1)) = bsOf (sg.ss.take k) ++ [(sg.ss.getD k bsz).b]) := bsOf_take _ _ hlt2
          have HSTK : Hid (∀ (z : World) (c : Nat), Below w1.heap.size w1 z → c < (sg.ss.getD k bsz).b.rs.length → Calls Try.prog 38 #[.pointer (some ⟨p, 0, none⟩), .slice aF (flatB L).length cF, .int .i64 ((n0 + k : Nat) : Int), .int .i64 c, .int .i64 now] z fun e z' => BoolE e ∧ Below z.heap.size z z') := fun z c hz hc => HST.out z (n0 + k) c hz hf1 (by rw [hf2]; exact hc)
          have hn1 : n0 + k ≤ 10000 := by omega
          clear hp hf1 hf2
          generalize sg.ss.getD k bsz = b at *
          obtain ⟨n1, HN1⟩ : ∃ n1, Hid (n0 + k = n1) := ⟨_, rfl⟩
          rw [HN1.out] at HSTK hn1
          rw [HN1.out]
          obtain ⟨⟨bb, bs, bp, bq, brs⟩, ba, bc⟩ := b
          simp only at c0 c1 c2 c3 c4 HSTK HTK
          have hbl : brs.length ≤ 2 := hbk.len
          have HRW : Hid (∀ z, Below wz.heap.size wz z → RRow z ba brs) := fun z hz => (hbk.below hz).row.1
          have HBX : Hid (∀ z, Below (wz.heap.size + 1) (wz.alloc (.cells #[.int .i64 bb, .int .i64 bs, .int .i64 bp, .int .i64 bq, .slice ba brs.length bc] 61)) z → Below wz.heap.size wz z ∧ z.heap[wz.heap.size]? = some (.cells #[.int .i64 bb, .int .i64 bs, .int .i64 bp, .int .i64 bq, .slice ba brs.length bc] 61 (0, 0))) := fun z hz => ⟨(below_box _).trans (hz.mono (by omega)), (hz.block _ (by omega)).trans (heap_alloc_new wz _)⟩
          have HR0 : Hid (Below (wz.heap.size + 1) (wz.alloc (.cells #[.int .i64 bb, .int .i64 bs, .int .i64 bp, .int .i64 bq, .slice ba brs.length bc] 61)) (wz.alloc (.cells #[.int .i64 bb, .int .i64 bs, .int .i64 bp, .int .i64 bq, .slice ba brs.length bc] 61))) := Below.refl _ _
          have HSZ0 : Hid (wz.heap.size + 1 ≤ (wz.alloc (.cells #[.int .i64 bb, .int .i64 bs, .int .i64 bp, .int .i64 bq, .slice ba brs.length bc] 61)).heap.size) := by show _ ≤ _; simp
          have HOWN : Hid (wz.ownsRow wo.heap.size 61 5 (.slice aA acc.length cA) acc.length (bcv acc)) := hown
          have HBA : Hid (∀ b ∈ acc, BatIs wz b) := hbat
          have HB : Hid (Below wo.heap.size wo wz) := hb
          have HW1Z : Hid (Below w1.heap.size w1 wz) := hbw1
          have HTH : Hid (Thin (bsOf acc) (bsOf (sg.ss.take k))) := hthin
          clear hown hbat hb hbw1 hthin hbk HST
          go_wp2_with fail
          clear z0 z1 z2 z3 z4 c5 cf hat hfr s0 s1 c0 c1 c2 c3 c4
          go_loopw [9, 12, 13] (fun gn v ci wv => ∃ (c : Nat) (acc2 : List Rc) (bg : Bool), c ≤ brs.length ∧ ci = .int .i64 c ∧ gn = .bool bg ∧ wv.ownsRow (wz.heap.size + 1) 48 6 v acc2.length (rcv acc2) ∧ List.Sublist acc2 (brs.take c) ∧ Below (wz.heap.size + 1) (wz.alloc (.cells #[.int .i64 bb, .int .i64 bs, .int .i64 bp, .int .i64 bq, .slice ba brs.length bc] 61)) wv) (fun _ _ ci _ => brs.length - (intOf ci).toNat)
          case atStart => exact ⟨0, [], bg, by omega, rfl, rfl, World.ownsRow_nil _ _ _ _, by simp, HR0.out⟩
          case round =>
            clear HR0
            obtain ⟨c, acc2, bg2, hc, rfl, rfl, hown2, hsub, hbv⟩ := hrel
            generalize wr = wv at *
            obtain ⟨hbz, hbox⟩ := HBX.out wv hbv
            obtain ⟨b0, b1, b2, b3, b4⟩ := five_cells hbox
            have hal2 : acc2.length ≤ 2 := Nat.le_trans hsub.length_le (by rw [List.length_take]; omega)
            by_cases hlt3 : c < brs.length
            · have hltC : (c : Int) < (brs.length : Int) := by omega
              have HS1 := (HSTK.out wv c (HW1Z.out.trans (hbz.mono HW1Z.out.size)) hlt3)
              have HRC : Hid (∀ z, Below wz.heap.size wz z → ∃ g off, ba = some ⟨g, off, none⟩ ∧ z.cell? ⟨g, off + c * 6, none⟩ = some (.bool (brs.getD c rz).hk) ∧ z.cell? ⟨g, off + c * 6 + 1, none⟩ = some (.string (brs.getD c rz).k) ∧ z.cell? ⟨g, off + c * 6 + 2, none⟩ = some (.bool (brs.getD c rz).hv) ∧ z.cell? ⟨g, off + c * 6 + 3, none⟩ = some (.string (brs.getD c rz).v) ∧ z.cell? ⟨g, off + c * 6 + 4, none⟩ = some (.int .i64 (brs.getD c rz).t) ∧ z.cell? ⟨g, off + c * 6 + 5, none⟩ = some (.int .i64 (brs.getD c rz).o)) := fun z hz => HRW.out z hz c hlt3
              have HSB : Hid (List.Sublist acc2 (brs.take (c + 1)) ∧ List.Sublist (acc2 ++ [brs.getD c rz]) (brs.take (c + 1))) := ⟨rtake_sub hsub, rsnoc_sub hsub hlt3⟩
              have HRN : Hid (∀ z : World, RRow (z.alloc (.cells (brs.getD c rz).cells 48)) (some ⟨z.heap.size, 0, none⟩) [brs.getD c rz]) := fun z => rrow_blk (heap_alloc_new z _)
              generalize brs.getD c rz = rc at *
              obtain ⟨hk', kk, hv, v0, t0, o0⟩ := rc
              simp only [Rc.cells] at HRC HRN
              clear hsub
              go_wp2_with (first
                | (go_at_call 38; refine Calls.mono HS1 ?_; rintro e w2 ⟨⟨yes, rfl⟩, hb2⟩; clear HS1 b0 b1 b2 b3 b4; have hbv2 := bel_on hbv HSZ0.out hb2; have hown3 := own_keep hown2 hb2 (Nat.le_refl _); obtain ⟨hbz2, hbox2⟩ := HBX.out w2 hbv2; obtain ⟨b0, b1, b2', b3, b4⟩ := five_cells hbox2; obtain ⟨g2, off2, rfl, d0, d1, d2, d3, d4, d5⟩ := HRC.out w2 hbz2; cases yes)
                | (at_builtin; refine wpList_app_rec (by rfl) _ _ rfl (wz.heap.size + 1) _ acc2 [⟨hk', kk, hv, v0, t0, o0⟩] rfl (own_keep hown3 (below_box _) (Nat.le_refl _)) (by have := hbv2.size; have := HSZ0.out; simp; omega) _ _ _ rfl rfl (HRN.out w2) (by simp; omega) ?_; intro v' w' hown' hg'))
              · exact ⟨⟨c + 1, acc2, true, by omega, by go_num, rfl, hown3, HSB.out.1, hbv2⟩, by simp [intOf]; omega⟩
              · exact ⟨⟨c + 1, _, bg2, by omega, by go_num, rfl, hown', HSB.out.2, own_bel' (hbv2.alloc (Nat.le_trans HSZ0.out hbv2.size) _) (by have := hbv2.size; have := HSZ0.out; simp; omega) hg' (fun x hx => (hown3.lt x hx).1)⟩, by simp [intOf]; omega⟩
            · obtain rfl : c = brs.length := by omega
              rw [List.take_length] at hsub
              obtain ⟨a2, c2, rfl⟩ := owns_rslice hown2
              have hset := grown_set wv wz.heap.size 4 (.slice a2 acc2.length c2)
              have hTx : HasT wv wz.heap.size 61 := ⟨_, hbox⟩
              have hlt0 := HOWN.out.lt
              have HA5 : Hid ((wv.setCell ⟨wz.heap.size, 4, none⟩ (.slice a2 acc2.length c2)).ownsRow wo.heap.size 61 5 (.slice aA acc.length cA) acc.length (bcv acc) ∧ (∀ b ∈ acc, BatIs (wv.setCell ⟨wz.heap.size, 4, none⟩ (.slice a2 acc2.length c2)) b) ∧ BatIs (wv.setCell ⟨wz.heap.size, 4, none⟩ (.slice a2 acc2.length c2)) ⟨⟨bb, bs, bp, bq, acc2⟩, a2, c2⟩ ∧ Below wo.heap.size wo (wv.setCell ⟨wz.heap.size, 4, none⟩ (.slice a2 acc2.length c2))) := by
                refine ⟨own_step' (own_keep HOWN.out hbz (Nat.le_refl _)) hset (fun q hq e => ?_), fun b hb => ((HBA.out b hb).below hbz).grown hset (fun q e => by injection e with e; subst e; exact hTx) (by decide), ⟨?_, hal2⟩, ?_⟩
                · injection hq with hq
                  have := (hlt0 q e).2
                  omega
                · have h5 := own_step' hown2 hset (fun q hq e => by
                    injection hq with hq
                    subst hq
                    exact absurd (hTx.same (own_hasT hown2 _ e)) (by decide))
                  exact own_keep h5 (Below.refl _ _) (Nat.zero_le _)
                · exact (HB.out.trans (hbz.mono HB.out.size)).setCell (p := ⟨wz.heap.size, 4, none⟩) HB.out.size _
              have HEQ : Hid (Value.int .i64 ((n1 : Int) + 1) = .int .i64 ((n0 + (k + 1) : Nat) : Int)) := by
                have := HN1.out
                show _ = _
                congr 1
                omega
              have HTN : Hid (Thin (bsOf acc) (bsOf (sg.ss.take (k + 1))) ∧ Thin (bsOf (acc ++ [⟨⟨bb, bs, bp, bq, acc2⟩, a2, c2⟩])) (bsOf (sg.ss.take (k + 1)))) := by
                show _ ∧ _
                rw [HTK.out, bsOf_app]
                exact ⟨HTH.out.skip _, HTH.out.snoc ⟨rfl, rfl, rfl, rfl, hsub⟩⟩
              have hxlt : wz.heap.size < wv.heap.size := hTx.lt
              clear hset hTx hlt0 hown2 hsub hbv hbz
              have HBR : BCells ((wv.setCell ⟨wz.heap.size, 4, none⟩ (.slice a2 acc2.length c2)).alloc (.cells #[.int .i64 bb, .int .i64 bs, .int .i64 bp, .int .i64 bq, .slice a2 acc2.length c2] 61)) (some ⟨wv.heap.size, 0, none⟩) [⟨⟨bb, bs, bp, bq, acc2⟩, a2, c2⟩] := by
                have h5 := brow_new (wv.setCell ⟨wz.heap.size, 4, none⟩ (.slice a2 acc2.length c2)) ⟨⟨bb, bs, bp, bq, acc2⟩, a2, c2⟩
                rw [show (wv.setCell ⟨wz.heap.size, 4, none⟩ (.slice a2 acc2.length c2)).heap.size = wv.heap.size by simp [World.setCell]] at h5
                exact h5
              have HB5 : wo.heap.size ≤ ((wv.setCell ⟨wz.heap.size, 4, none⟩ (.slice a2 acc2.length c2)).alloc (.cells #[.int .i64 bb, .int .i64 bs, .int .i64 bp, .int .i64 bq, .slice a2 acc2.length c2] 61)).heap.size := Nat.le_trans HA5.out.2.2.2.size (by simp)
              have hfz : wv.frozen? ⟨wz.heap.size, 4, none⟩ = false := frozen_cells hbox
              by_cases hzI : (0 : Int) < (acc2.length : Int)
              · go_wp2_with (at_builtin; refine wpList_app_bats (by rfl) _ _ rfl wo.heap.size (.slice aA acc.length cA) acc [⟨⟨bb, bs, bp, bq, acc2⟩, a2, c2⟩] rfl (own_keep HA5.out.1 (below_box _) (Nat.le_refl _)) HB5 _ _ _ rfl rfl HBR (fun e => by cases e) (by simp; omega) ?_; intro v' w' hown' hg' _)
                have hown6 := own_keep HA5.out.1 (below_box (w := (wv.setCell ⟨wz.heap.size, 4, none⟩ (.slice a2 acc2.length c2))) (.cells #[.int .i64 bb, .int .i64 bs, .int .i64 bp, .int .i64 bq, .slice a2 acc2.length c2] 61)) (Nat.le_refl _)
                refine ⟨⟨k + 1, acc ++ [⟨⟨bb, bs, bp, bq, acc2⟩, a2, c2⟩], bg2, by omega, by go_num, HEQ.out, rfl, hown', HTN.out.2, fun b hb => ?_, by simp; omega, own_bel' (HA5.out.2.2.2.alloc HA5.out.2.2.2.size _) HB5 hg' (fun x hx => (hown6.lt x hx).1)⟩, by simp [intOf]; omega⟩
                refine BatIs.grown (t := 61) (BatIs.below (?_ : BatIs (wv.setCell ⟨wz.heap.size, 4, none⟩ (.slice a2 acc2.length c2)) b) (below_box _)) hg' (fun x hx => own_hasT hown6 x hx) (by decide)
                rcases List.mem_append.1 hb with q | q
                · exact HA5.out.2.1 b q
                · rw [List.mem_singleton.1 q]
                  exact HA5.out.2.2.1
              · go_wp2_with fail
                exact ⟨⟨k + 1, acc, bg2, by omega, by go_num, HEQ.out, rfl, HA5.out.1, HTN.out.1, HA5.out.2.1, by omega, HA5.out.2.2.2⟩, by simp [intOf]; omega⟩
        · obtain rfl : k = sg.ss.length := by omega
          rw [List.take_length] at hthin
          cases bg
          · go_wp2_with fail
            exact ⟨⟨s + 1, by omega, by go_num, by rw [HFN.out], hbw1⟩, by simp [intOf]; omega⟩
          · have HDN : CompE B p seg r off cap L y (.returned (.bool true)) ((wz.drew.alloc (.cells #[.int .i64 (L.getD s sgz).base, .slice aA acc.length cA] 96)).setCell ⟨r, off + s, none⟩ (.pointer (some ⟨wz.heap.size, 0, none⟩))) := comp_done (z := wz.drew) HY0.out hby.drew (by omega : s + 1 < L.length) hown (Nat.le_trans HW1.out.size HWR.out.size) (fun b hb => (hbat b hb).below (Below.refl _ _).drew) (by rw [HSg]; exact hthin) (by omega)
            rw [HSg] at HDN
            have hS0 : wz.drew.cell? ⟨p, 5, none⟩ = some (.slice (some ⟨r, off, none⟩) L.length cap) ∧ wz.drew.cell? ⟨r, off + s, none⟩ = some (.pointer (some ⟨sg.g, 0, none⟩)) ∧ wz.drew.cell? ⟨sg.g, 0, none⟩ = some (.int .i64 sg.base) ∧ wz.drew.frozen? ⟨r, off + s, none⟩ = false := ⟨c5, hat, s0, hfr⟩
            have hl1 := World.block_lt_of_cell? _ _ c5
            have hl2 := World.block_lt_of_cell? _ _ hat
            have hl3 := World.block_lt_of_cell? _ _ s0
            simp only at hl1 hl2 hl3
            obtain ⟨hbc, hbf⟩ := bcell (below_box (w := wz) (.cells #[.int .i64 sg.base, .slice aA acc.length cA] 96))
            have hS1 : (wz.alloc (.cells #[.int .i64 sg.base, .slice aA acc.length cA] 96)).drew.cell? ⟨p, 5, none⟩ = some (.slice (some ⟨r, off, none⟩) L.length cap) ∧ (wz.alloc (.cells #[.int .i64 sg.base, .slice aA acc.length cA] 96)).drew.cell? ⟨r, off + s, none⟩ = some (.pointer (some ⟨sg.g, 0, none⟩)) ∧ (wz.alloc (.cells #[.int .i64 sg.base, .slice aA acc.length cA] 96)).drew.cell? ⟨sg.g, 0, none⟩ = some (.int .i64 sg.base) ∧ (wz.alloc (.cells #[.int .i64 sg.base, .slice aA acc.length cA] 96)).drew.frozen? ⟨r, off + s, none⟩ = false :=
              ⟨(hbc _ _ hl1).trans c5, (hbc _ _ hl2).trans hat, (hbc _ _ hl3).trans s0, (hbf _ _ hl2).trans hfr⟩
            have HDN2 : Hid (CompE B p seg r off cap L y (.returned (.bool true)) ((wz.alloc (.cells #[.int .i64 sg.base, .slice aA acc.length cA] 96)).drew.setCell ⟨r, off + s, none⟩ (.pointer (some ⟨wz.heap.size, 0, none⟩)))) := HDN
            clear hbc hbf HDN
            go_upto_region 24 with fail
            refine wp_region_lat (fun z : World => z.cell? ⟨p, 5, none⟩ = some (.slice (some ⟨r, off, none⟩) L.length cap) ∧ z.cell? ⟨r, off + s, none⟩ = some (.pointer (some ⟨sg.g, 0, none⟩)) ∧ z.cell? ⟨sg.g, 0, none⟩ = some (.int .i64 sg.base) ∧ z.frozen? ⟨r, off + s, none⟩ = false) 19 (by kernel_rfl) hS0 (fun hHeld => ?_)
            refine lat_take 0 (v := ?_) rfl (by kernel_rfl) (by kernel_rfl) (by kernel_rfl) (by kernel_rfl) (fun _ _ _ h => h) (by rfl) ?_ (by assumption) ?_
            rotate_left
            · (intro w hSw; (try dsimp only at hSw); (try obtain ⟨q0, q1, q2, q3⟩ := hSw); go_simp <;> with_reducible rfl)
            try simp only [Act.put, List.setIfInBounds_toArray, List.set_cons_zero, List.set_cons_succ]
            refine lat_take 1 (v := ?_) rfl (by kernel_rfl) (by kernel_rfl) (by kernel_rfl) (by kernel_rfl) (fun _ _ _ h => h) (by rfl) ?_ (by assumption) ?_
            rotate_left
            · (intro w hSw; (try dsimp only at hSw); (try obtain ⟨q0, q1, q2, q3⟩ := hSw); go_simp <;> with_reducible rfl)
            try simp only [Act.put, List.setIfInBounds_toArray, List.set_cons_zero, List.set_cons_succ]
            refine lat_take 2 (v := ?_) rfl (by kernel_rfl) (by kernel_rfl) (by kernel_rfl) (by kernel_rfl) (fun _ _ _ h => h) (by rfl) ?_ (by assumption) ?_
            rotate_left
            · (intro w hSw; (try dsimp only at hSw); (try obtain ⟨q0, q1, q2, q3⟩ := hSw); go_simp <;> with_reducible rfl)
            try simp only [Act.put, List.setIfInBounds_toArray, List.set_cons_zero, List.set_cons_succ]
            refine lat_take 3 (v := ?_) rfl (by kernel_rfl) (by kernel_rfl) (by kernel_rfl) (by kernel_rfl) (fun _ _ _ h => h) (by rfl) ?_ (by assumption) ?_
            rotate_left
            · (intro w hSw; (try dsimp only at hSw); (try obtain ⟨q0, q1, q2, q3⟩ := hSw); go_simp <;> with_reducible rfl)
            try simp only [Act.put, List.setIfInBounds_toArray, List.set_cons_zero, List.set_cons_succ]
            refine lat_take 4 (v := ?_) rfl (by kernel_rfl) (by kernel_rfl) (by kernel_rfl) (by kernel_rfl) (fun _ _ _ h => h) (by rfl) ?_ (by assumption) ?_
            rotate_left
            · (intro w hSw; (try dsimp only at hSw); (try obtain ⟨q0, q1, q2, q3⟩ := hSw); go_simp <;> with_reducible rfl)
            try simp only [Act.put, List.setIfInBounds_toArray, List.set_cons_zero, List.set_cons_succ]
            refine lat_take 5 (v := ?_) rfl (by kernel_rfl) (by kernel_rfl) (by kernel_rfl) (by kernel_rfl) (fun _ _ _ h => h) (by rfl) ?_ (by assumption) ?_
            rotate_left
            · (intro w hSw; (try dsimp only at hSw); (try obtain ⟨q0, q1, q2, q3⟩ := hSw); go_simp <;> with_reducible rfl)
            try simp only [Act.put, List.setIfInBounds_toArray, List.set_cons_zero, List.set_cons_succ]
            refine lat_take 6 (v := ?_) rfl (by kernel_rfl) (by kernel_rfl) (by kernel_rfl) (by kernel_rfl) (fun _ _ _ h => h) (by rfl) ?_ (by assumption) ?_
            rotate_left
            · (intro w hSw; (try dsimp only at hSw); (try obtain ⟨q0, q1, q2, q3⟩ := hSw); go_simp <;> with_reducible rfl)
            try simp only [Act.put, List.setIfInBounds_toArray, List.set_cons_zero, List.set_cons_succ]
            refine lat_take 7 (v := ?_) rfl (by kernel_rfl) (by kernel_rfl) (by kernel_rfl) (by kernel_rfl) (fun _ _ _ h => h) (by rfl) ?_ (by assumption) ?_
            rotate_left
            · (intro w hSw; (try dsimp only at hSw); (try obtain ⟨q0, q1, q2, q3⟩ := hSw); go_simp <;> with_reducible rfl)
            try simp only [Act.put, List.setIfInBounds_toArray, List.set_cons_zero, List.set_cons_succ]
            refine lat_take 8 (v := ?_) rfl (by kernel_rfl) (by kernel_rfl) (by kernel_rfl) (by kernel_rfl) (fun _ _ _ h => h) (by rfl) ?_ (by assumption) ?_
            rotate_left
            · (intro w hSw; (try dsimp only at hSw); (try obtain ⟨q0, q1, q2, q3⟩ := hSw); go_simp <;> with_reducible rfl)
            try simp only [Act.put, List.setIfInBounds_toArray, List.set_cons_zero, List.set_cons_succ]
            refine lat_take 9 (v := ?_) rfl (by kernel_rfl) (by kernel_rfl) (by kernel_rfl) (by kernel_rfl) (fun _ _ _ h => h) (by rfl) ?_ (by assumption) ?_
            rotate_left
            · (intro w hSw; (try dsimp only at hSw); (try obtain ⟨q0, q1, q2, q3⟩ := hSw); go_simp <;> with_reducible rfl)
            try simp only [Act.put, List.setIfInBounds_toArray, List.set_cons_zero, List.set_cons_succ]
            refine lat_take 10 (v := ?_) rfl (by kernel_rfl) (by kernel_rfl) (by kernel_rfl) (by kernel_rfl) (fun _ _ _ h => h) (by rfl) ?_ (by assumption) ?_
            rotate_left
            · (intro w hSw; (try dsimp only at hSw); (try obtain ⟨q0, q1, q2, q3⟩ := hSw); go_simp <;> with_reducible rfl)
            try simp only [Act.put, List.setIfInBounds_toArray, List.set_cons_zero, List.set_cons_succ]
            refine lat_take 11 (v := ?_) rfl (by kernel_rfl) (by kernel_rfl) (by kernel_rfl) (by kernel_rfl) (fun _ _ _ h => h) (by rfl) ?_ (by assumption) ?_
            rotate_left
            · (intro w hSw; (try dsimp only at hSw); (try obtain ⟨q0, q1, q2, q3⟩ := hSw); go_simp <;> with_reducible rfl)
            try simp only [Act.put, List.setIfInBounds_toArray, List.set_cons_zero, List.set_cons_succ]
            refine lat_take 12 (v := ?_) rfl (by kernel_rfl) (by kernel_rfl) (by kernel_rfl) (by kernel_rfl) (fun _ _ _ h => h) (by rfl) ?_ (by assumption) ?_
            rotate_left
            · (intro w hSw; (try dsimp only at hSw); (try obtain ⟨q0, q1, q2, q3⟩ := hSw); go_simp <;> with_reducible rfl)
            try simp only [Act.put, List.setIfInBounds_toArray, List.set_cons_zero, List.set_cons_succ]
            refine lat_take 13 (v := ?_) rfl (by kernel_rfl) (by kernel_rfl) (by kernel_rfl) (by kernel_rfl) (fun _ _ _ h => h) (by rfl) ?_ (by assumption) ?_
            rotate_left
            · (intro w hSw; (try dsimp only at hSw); (try obtain ⟨q0, q1, q2, q3⟩ := hSw); go_simp <;> with_reducible rfl)
            try simp only [Act.put, List.setIfInBounds_toArray, List.set_cons_zero, List.set_cons_succ]
            refine lat_take 14 (v := ?_) rfl (by kernel_rfl) (by kernel_rfl) (by kernel_rfl) (by kernel_rfl) (fun _ _ _ h => h) (by rfl) ?_ (by assumption) ?_
            rotate_left
            · (intro w hSw; (try dsimp only at hSw); (try obtain ⟨q0, q1, q2, q3⟩ := hSw); go_simp <;> with_reducible rfl)
            try simp only [Act.put, List.setIfInBounds_toArray, List.set_cons_zero, List.set_cons_succ]
            refine lat_take 15 (v := ?_) rfl (by kernel_rfl) (by kernel_rfl) (by kernel_rfl) (by kernel_rfl) (fun _ _ _ h => h) (by rfl) ?_ (by assumption) ?_
            rotate_left
            · (intro w hSw; (try dsimp only at hSw); (try obtain ⟨q0, q1, q2, q3⟩ := hSw); go_simp <;> with_reducible rfl)
            try simp only [Act.put, List.setIfInBounds_toArray, List.set_cons_zero, List.set_cons_succ]
            refine lat_take 16 (v := ?_) rfl (by kernel_rfl) (by kernel_rfl) (by kernel_rfl) (by kernel_rfl) (fun _ _ _ h => h) (by rfl) ?_ (by assumption) ?_
            rotate_left
            · (intro w hSw; (try dsimp only at hSw); (try obtain ⟨q0, q1, q2, q3⟩ := hSw); go_simp <;> with_reducible rfl)
            try simp only [Act.put, List.setIfInBounds_toArray, List.set_cons_zero, List.set_cons_succ]
            refine lat_one 17 rfl (by kernel_rfl) (by decide) (by rfl) (fun K hK => ?_)
            go_simp
            refine hK.out _ _ hS1 (fun hHeld2 => ?_)
            clear hK
            try simp only [Act.put, List.setIfInBounds_toArray, List.set_cons_zero, List.set_cons_succ]
            obtain ⟨w5, HW5⟩ : ∃ w5, Hid ((wz.alloc (.cells #[.int .i64 sg.base, .slice aA acc.length cA] 96)).drew = w5) := ⟨_, rfl⟩
            rw [HW5.out] at hS1 HDN2 ⊢
            clear hHeld2
            have hHeld3 := hS1
            refine lat_take 18 (v := ?_) rfl (by kernel_rfl) (by kernel_rfl) (by kernel_rfl) (by kernel_rfl) (fun _ _ _ h => h) (by rfl) ?_ (by assumption) ?_
            rotate_left
            · (intro w hSw; (try dsimp only at hSw); (try obtain ⟨q0, q1, q2, q3⟩ := hSw); go_simp <;> with_reducible rfl)
            try simp only [Act.put, List.setIfInBounds_toArray, List.set_cons_zero, List.set_cons_succ]
            refine lat_last 19 rfl (by kernel_rfl) (by decide) (by kernel_rfl) (by rfl) (fun K hK => ?_)
            obtain ⟨q0, q1, q2, q3⟩ := hS1
            go_simp
            refine hK.out _ _ ?_
            clear hK
            try simp only [Act.put, List.setIfInBounds_toArray, List.set_cons_zero, List.set_cons_succ]
            go_wp2
            go_ret
            exact HDN2.out
    · have hltI : ¬ (s : Int) + 1 < (L.length : Int) := by omega
      go_wp2_with fail
      go_ret
      exact HNO.out wo false hby
end Go.Proofs.Ytnnljdnaipjoiaa
