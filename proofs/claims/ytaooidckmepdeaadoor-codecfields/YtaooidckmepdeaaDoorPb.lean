/- The document's pen: records. -/
import Derived.Test.YtaooidckmepdeaaDoorPa
namespace Go.Proofs.YtaooidckmepdeaaDoor
set_option linter.unusedSimpArgs false
set_option linter.unusedVariables false
open Go.RowKit
theorem Tryd.info87p : (Tryd.prog.info? 87).map (·.size) = some 6 := by kernel_rfl
theorem eL_take {α : Type} (en : α → Ls) (l : List α) (d : α) (k : Nat) (hk : k < l.length) : eL en (l.take (k + 1)) = oa (eL en (l.take k)) (en (l.getD k d)) := by
  rw [List.take_succ_eq_append_getElem hk, eL_app, List.getD_eq_getElem?_getD, List.getElem?_eq_getElem hk]
  simp [eL, oa_nil]
theorem eL_none {α : Type} (en : α → Ls) (l : List α) (s : Ls) (k : Nat) (h : oa s (eL en (l.take k)) = none) : oa s (eL en l) = none := by
  have : eL en l = oa (eL en (l.take k)) (eL en (l.drop k)) := by rw [← eL_app, List.take_append_drop]
  rw [this, ← oa_assoc, h, none_oa]
/-- A record's round: the state behind it. -/
theorem rec_good {s : Ls} {hk hv : Bool} {k v : ByteArray} {t o : Int} (h : okR ⟨hk, k, hv, v, t, o⟩ = true) : oa (oa (oa (oa s (some (lay 1 (headB hk hv)))) (eIf hk k)) (eIf hv v)) (some (lay 8 (un t))) = oa s (eRec ⟨hk, k, hv, v, t, o⟩) := by
  unfold eRec
  rw [if_pos h]
  simp only [oa_assoc]
  rfl
theorem rec_bad {s : Ls} {r : Rc} (h : okR r = false) : oa s (eRec r) = none := by
  unfold eRec
  rw [if_neg (by rw [h]; decide), oa_none]
theorem size_none {k : ByteArray} (h : k.toList = []) : k.size = 0 := by
  have : k = ⟨#[]⟩ := toList_inj (by rw [h, ByteArray.toList_eq])
  rw [this]; rfl
theorem size_some {k : ByteArray} (h : ¬ k.toList = []) : k.size ≠ 0 := fun q => h (by rw [size_zero q, ByteArray.toList_eq])
theorem okR_no {hk hv : Bool} {k v : ByteArray} {t o : Int} (h : o ≠ 0 ∨ (hk = false ∧ k.size ≠ 0) ∨ (hv = false ∧ v.size ≠ 0)) : okR ⟨hk, k, hv, v, t, o⟩ = false := by
  unfold okR
  rcases h with h | ⟨rfl, h⟩ | ⟨rfl, h⟩ <;> simp [h]
theorem okR_yes {hk hv : Bool} {k v : ByteArray} {t o : Int} (h : o = 0) (h1 : hk = true ∨ k.size = 0) (h2 : hv = true ∨ v.size = 0) : okR ⟨hk, k, hv, v, t, o⟩ = true := by
  unfold okR
  subst h
  rcases h1 with rfl | h1 <;> rcases h2 with rfl | h2 <;> simp [*]
set_option maxHeartbeats 4000000 in
set_option maxRecDepth 100000 in
theorem precs_any (w0 w : World) (P : Nat) (st : Ls) (N : Nat) (a : Option Addr) (cap : Nat) (rs : List Rc) (hN : N ≤ 100000000000) (hl : rs.length ≤ 300) (hr : RRow w0 a rs) (hrs : ∀ r, r ∈ rs → In64 r.t ∧ r.k.size ≤ 100000 ∧ r.v.size ≤ 100000) (h : PnS w0 P w st N) :
    Calls Tryd.prog 45 #[(.pointer (some ⟨P, 0, none⟩)), .slice a rs.length cap] w (PP w0 P w (oa st (eRow eRec rs)) (N + 2 + 60300000)) := by
  have HC : Hid (Calls Tryd.prog 46 #[(.pointer (some ⟨P, 0, none⟩)), .int .i64 (rs.length : Int)] w (PP w0 P w (oa st (eSh rs.length)) (N + 2))) := short_any w0 w P st N rs.length (by omega) (by omega) h
  have e0 : oa st (eRow eRec rs) = oa (oa st (eSh rs.length)) (eL eRec rs) := by
    unfold eRow eSh
    rw [if_pos (by omega), if_pos (by omega), oa_assoc]
  rw [e0]
  generalize oa st (eSh rs.length) = s0 at *
  have HR : Hid (RRow w0 a rs) := hr
  have HRS : Hid (∀ r, r ∈ rs → In64 r.t ∧ r.k.size ≤ 100000 ∧ r.v.size ≤ 100000) := hrs
  have HLO : Hid (w0.heap.size ≤ P) := h.low
  clear hr hrs h e0
  go_enter Tryd.func45, Tryd.ntmps45
  go_wp2_with (go_at_call 46; refine Calls.mono HC.out ?_; rintro e w1 ⟨rfl, hw1, hk1⟩; have HW1 : Hid (PnS w0 P w1 s0 (N + 2)) := hw1; have HK1 : Hid (KeepT P w w1) := hk1; clear hw1 hk1)
  go_loopw [4] (fun iv wr => ∃ kk : Nat, kk ≤ rs.length ∧ iv = .int .i64 kk ∧ PnS w0 P wr (oa s0 (eL eRec (rs.take kk))) (N + 2 + kk * 201000) ∧ KeepT P w wr) (fun iv _ => rs.length - (iof iv).toNat)
  case atStart => exact ⟨0, by omega, rfl, by simpa [eL, oa_nil] using HW1.out, HK1.out⟩
  case round =>
    obtain ⟨kk, hkk, rfl, hp, hkt⟩ := hrel
    obtain ⟨sk, HSK⟩ : ∃ sk, Hid (oa s0 (eL eRec (rs.take kk)) = sk) := ⟨_, rfl⟩
    rw [HSK.out] at hp
    have HP : Hid (PnS w0 P wr sk (N + 2 + kk * 201000)) := hp
    have HKT : Hid (KeepT P w wr) := hkt
    obtain ⟨a0, l0, k0, c0, c1, f0, f1, _⟩ := hp.open
    clear hp hkt HW1 HK1 HC
    by_cases hlt : kk < rs.length
    · have hltI : (kk : Int) < (rs.length : Int) := by omega
      cases sk with
      | none =>
        simp only [Option.isNone_none] at c1
        go_wp2
        go_end0
        exact ⟨rfl, by rw [eL_none eRec rs s0 kk HSK.out]; exact HP.out.mono (by omega), HKT.out⟩
      | some Lk =>
        simp only [Option.isNone_some] at c1
        have HNX : Hid (oa s0 (eL eRec (rs.take (kk + 1))) = oa (some Lk) (eRec (rs.getD kk rz))) := by
          show _ = _
          rw [eL_take eRec rs rz kk hlt, ← oa_assoc, HSK.out]
        have hm : rs.getD kk rz ∈ rs := by rw [List.getD_eq_getElem?_getD, List.getElem?_eq_getElem hlt]; exact List.getElem_mem hlt
        obtain ⟨ht, hks, hvs⟩ := HRS.out _ hm
        obtain ⟨bb, off, rfl, y0, y1, y2, y3, y4, y5⟩ := (RRow.below HR.out HP.out.bel) kk hlt
        clear hm HR HRS
        generalize rs.getD kk rz = r at *
        obtain ⟨hk, k, hv, v, t, o⟩ := r
        simp only at y0 y1 y2 y3 y4 y5 ht hks hvs
        have HU : Hid (IntKind.u64.wrap t = ((un t : Nat) : Int) ∧ un t ≤ 18446744073709551615) := ⟨u64_un t, by have := un_lt t; omega⟩
        have eU := HU.out.1
        cases hk <;> cases hv
        · have HY : Hid ((wr.alloc (.cells #[.bool false, .string k, .bool false, .string v, .int .i64 t, .int .i64 o] 87)).heap[wr.heap.size]? = some (.cells #[.bool false, .string k, .bool false, .string v, .int .i64 t, .int .i64 o] 87 (0, 0))) := heap_alloc_new wr _
          have HYP : Hid (PnS w0 P (wr.alloc (.cells #[.bool false, .string k, .bool false, .string v, .int .i64 t, .int .i64 o] 87)) (some Lk) (N + 2 + kk * 201000)) := PnS.below HP.out (below_box _)
          have HYK : Hid (KeepT P w (wr.alloc (.cells #[.bool false, .string k, .bool false, .string v, .int .i64 t, .int .i64 o] 87))) := HKT.out.trans (KeepT.of_below (below_box _))
          have HYS : Hid ((wr.alloc (.cells #[.bool false, .string k, .bool false, .string v, .int .i64 t, .int .i64 o] 87)).heap.size = wr.heap.size + 1) := by show _ = _; simp
          have HNE : Hid (wr.heap.size ≠ P) := fun q => by obtain ⟨v0, l0, hx0, _⟩ := HP.out.ex; have := (Array.getElem?_eq_some_iff.1 hx0).1; omega
          have HRX : Hid (∀ x, KeepT P (wr.alloc (.cells #[.bool false, .string k, .bool false, .string v, .int .i64 t, .int .i64 o] 87)) x → x.heap[wr.heap.size]? = some (.cells #[.bool false, .string k, .bool false, .string v, .int .i64 t, .int .i64 o] 87 (0, 0))) := fun x hx => KeepT.box hx HY.out HNE.out (by decide)
          obtain ⟨a1, l1, k1, d0, d1, g0, g1, hx1, ho1, hb1, hl1, hs1⟩ := HYP.out.open
          have r0 := (box_at HY.out 0).1
          have r1 := (box_at HY.out 1).1
          have r2 := (box_at HY.out 2).1
          have r3 := (box_at HY.out 3).1
          have r4 := (box_at HY.out 4).1
          have r5 := (box_at HY.out 5).1
          simp only [List.getElem?_toArray, List.getElem?_cons_zero, List.getElem?_cons_succ] at r0 r1 r2 r3 r4 r5
          have HO1 : Hid ((wr.alloc (.cells #[.bool false, .string k, .bool false, .string v, .int .i64 t, .int .i64 o] 87)).ownsRow w0.heap.size 5 1 (.slice a1 l1.length k1) l1.length (cv l1)) := ho1
          have HX1 : Hid ((wr.alloc (.cells #[.bool false, .string k, .bool false, .string v, .int .i64 t, .int .i64 o] 87)).heap[P]? = some (.cells #[.slice a1 l1.length k1, .bool (some Lk : Ls).isNone] 79 (0, 0))) := hx1
          have HS1 : Hid (∀ L, some Lk = some L → l1 = L) := hs1
          have eb0 : bits BinOp.or IntKind.u8 0 2 = 2 := by decide
          have eb1 : bits BinOp.or IntKind.u8 1 2 = 3 := by decide
          have hne1 : ¬ wr.heap.size = P := HNE.out
          have hne2 : ¬ P = wr.heap.size := fun q => HNE.out q.symm
          have HLA : Hid ((l1 ++ [0] : List Nat).length = l1.length + 1) := by show _ = _; simp
          clear ho1 hx1 hs1
          have HGD : Hid (okR ⟨false, k, false, v, t, o⟩ = true → oa (oa (some Lk) (some [0])) (some (lay 8 (un t))) = oa (some Lk) (eRec ⟨false, k, false, v, t, o⟩)) := fun h => by rw [← rec_good h, show lay 1 (headB false false) = [0] from rfl]; simp only [eIf, if_true, Bool.false_eq_true, if_false, oa_nil]
          have tok1 : True := trivial
          have HTX : Hid (∀ x s N' u, N' ≤ 700000000000 → u.size ≤ 100000 → PnS w0 P x s N' → Calls Tryd.prog 44 #[(.pointer (some ⟨P, 0, none⟩)), .string u] x (PP w0 P x (oa s (eText u)) (N' + 2 + u.size))) := fun x s N' u h1 h2 h3 => ptext_any w0 x P s N' u h1 (by omega) h3
          go_wp2_with (first
            | (at_builtin; have _h := tok1; refine wpList_append_rw (by rfl) _ _ rfl w0.heap.size _ l1 rfl (own_any HO1.out (below_box _)) (by have := HYP.out.bel.size; simp at this ⊢; omega) (some ⟨wr.heap.size + 1, 0, none⟩) 1 1 [0] rfl rfl (by have q := (head_row (wr.alloc (.cells #[.bool false, .string k, .bool false, .string v, .int .i64 t, .int .i64 o] 87)) 0 (by decide)).1; rw [HYS.out] at q; exact q) (fun c => by cases c) (by simp only [List.length_cons, List.length_nil]; omega) ?_; intro v' w2 ho2 hg2; obtain ⟨a2, c2, rfl⟩ := own_slice ho2; have hKA : ∀ B', KeepT B' (wr.alloc (.cells #[.bool false, .string k, .bool false, .string v, .int .i64 t, .int .i64 o] 87)) w2 := (fun B' => (KeepT.of_below (below_box _)).trans (KeepT.grown (own_any HO1.out (below_box _)) hg2)); have hF := PnS.app (M := N + 2 + kk * 201000 + 1) HX1.out hb1 hl1 HS1.out HLO.out ho2 ((HYP.out.bel.trans ((below_box _).mono HYP.out.bel.size)).grown hg2 (by have := HYP.out.bel.size; simp at this ⊢; omega) (fun k hk => (HO1.out.lt k hk).1)) hKA (lay_byt 1 0) (by simp); rw [HLA.out] at hF; have HF : Hid (PnS w0 P (w2.setCell ⟨P, 0, none⟩ (.slice a2 (l1.length + 1) c2)) (oa (some Lk) (some [0])) ((N + 2 + kk * 201000) + 1)) := hF.1; have HFK : Hid (KeepT P (wr.alloc (.cells #[.bool false, .string k, .bool false, .string v, .int .i64 t, .int .i64 o] 87)) (w2.setCell ⟨P, 0, none⟩ (.slice a2 (l1.length + 1) c2))) := hF.2; clear d0 d1 g0 g1 r0 r1 r2 r3 r4 r5; obtain ⟨d0, d1, g0, g1⟩ := pen_cells (pen_box HX1.out hKA); have HBX2 : Hid (w2.heap[wr.heap.size]? = some (.cells #[.bool false, .string k, .bool false, .string v, .int .i64 t, .int .i64 o] 87 (0, 0))) := HRX.out _ (hKA P); have r0 := (box_at HBX2.out 0).1; have r1 := (box_at HBX2.out 1).1; have r2 := (box_at HBX2.out 2).1; have r3 := (box_at HBX2.out 3).1; have r4 := (box_at HBX2.out 4).1; have r5 := (box_at HBX2.out 5).1; simp only [List.getElem?_toArray, List.getElem?_cons_zero, List.getElem?_cons_succ] at r0 r1 r2 r3 r4 r5; rw [HLA.out]; clear ho2 hg2 hF hKA _h tok1; have tok2 : True := trivial))
          have r4 : (w2.setCell ⟨P, 0, none⟩ (.slice a2 (l1.length + 1) c2)).cell? ⟨wr.heap.size, 4, none⟩ = some (.int .i64 t) := (by rw [(box_at (HRX.out _ HFK.out) 4).1]; rfl)
          generalize (w2.setCell ⟨P, 0, none⟩ (.slice a2 (l1.length + 1) c2)) = z at *
          have HZ : Hid (PnS w0 P z (oa (some Lk) (some [0])) ((N + 2 + kk * 201000) + 1)) := HF.out
          have HZK : Hid (KeepT P (wr.alloc (.cells #[.bool false, .string k, .bool false, .string v, .int .i64 t, .int .i64 o] 87)) z) := HFK.out
          obtain ⟨a3, k3, c3, hx3, hC⟩ := pen_lay (by omega) (PnS.below HZ.out (below_drew _))
          have HC : Hid (Calls Tryd.prog 29 #[.slice a3 k3 c3, .int .i64 8, .int .u64 ((un t : Nat) : Int)] z.drew (PL w0 P z.drew (oa (oa (some Lk) (some [0])) (some (lay 8 (un t)))) (((N + 2 + kk * 201000) + 1) + 8))) := hC 8 (un t) (by decide) HU.out.2
          have HX3 : Hid (z.drew.heap[P]? = some (.cells #[.slice a3 k3 c3, .bool ((oa (some Lk) (some [0])) : Ls).isNone] 79 (0, 0))) := hx3
          obtain ⟨d0, d1, g0, g1⟩ := pen_cells HX3.out
          have hS0 : z.drew.cell? ⟨P, 0, none⟩ = some (.slice a3 k3 c3) ∧ z.drew.cell? ⟨wr.heap.size, 4, none⟩ = some (.int .i64 t) := ⟨d0, r4⟩
          clear hx3 hC d0 d1 g0 g1 r0 r1 r2 r3 r4 r5
          refine wp_region_lat (fun y : World => y.cell? ⟨P, 0, none⟩ = some (.slice a3 k3 c3) ∧ y.cell? ⟨wr.heap.size, 4, none⟩ = some (.int .i64 t)) 11 (by kernel_rfl) hS0 (fun hHeld => ?_)
          refine lat_take 0 (v := ?_) rfl (by kernel_rfl) (by kernel_rfl) (by kernel_rfl) (by kernel_rfl) (fun _ _ _ h => h) (by rfl) ?_ (by assumption) ?_
          rotate_left
          · (intro y hSy; (try dsimp only at hSy); (try obtain ⟨s0, s1⟩ := hSy); go_simp <;> with_reducible rfl)
          try simp only [Act.put, List.setIfInBounds_toArray, List.set_cons_zero, List.set_cons_succ]
          refine lat_take 1 (v := ?_) rfl (by kernel_rfl) (by kernel_rfl) (by kernel_rfl) (by kernel_rfl) (fun _ _ _ h => h) (by rfl) ?_ (by assumption) ?_
          rotate_left
          · (intro y hSy; (try dsimp only at hSy); (try obtain ⟨s0, s1⟩ := hSy); go_simp <;> with_reducible rfl)
          try simp only [Act.put, List.setIfInBounds_toArray, List.set_cons_zero, List.set_cons_succ]
          refine lat_take 2 (v := ?_) rfl (by kernel_rfl) (by kernel_rfl) (by kernel_rfl) (by kernel_rfl) (fun _ _ _ h => h) (by rfl) ?_ (by assumption) ?_
          rotate_left
          · (intro y hSy; (try dsimp only at hSy); (try obtain ⟨s0, s1⟩ := hSy); go_simp <;> with_reducible rfl)
          try simp only [Act.put, List.setIfInBounds_toArray, List.set_cons_zero, List.set_cons_succ]
          refine lat_take 3 (v := ?_) rfl (by kernel_rfl) (by kernel_rfl) (by kernel_rfl) (by kernel_rfl) (fun _ _ _ h => h) (by rfl) ?_ (by assumption) ?_
          rotate_left
          · (intro y hSy; (try dsimp only at hSy); (try obtain ⟨s0, s1⟩ := hSy); go_simp <;> with_reducible rfl)
          try simp only [Act.put, List.setIfInBounds_toArray, List.set_cons_zero, List.set_cons_succ]
          refine lat_take 4 (v := ?_) rfl (by kernel_rfl) (by kernel_rfl) (by kernel_rfl) (by kernel_rfl) (fun _ _ _ h => h) (by rfl) ?_ (by assumption) ?_
          rotate_left
          · (intro y hSy; (try dsimp only at hSy); (try obtain ⟨s0, s1⟩ := hSy); go_simp <;> with_reducible rfl)
          try simp only [Act.put, List.setIfInBounds_toArray, List.set_cons_zero, List.set_cons_succ]
          refine lat_take 5 (v := ?_) rfl (by kernel_rfl) (by kernel_rfl) (by kernel_rfl) (by kernel_rfl) (fun _ _ _ h => h) (by rfl) ?_ (by assumption) ?_
          rotate_left
          · (intro y hSy; (try dsimp only at hSy); (try obtain ⟨s0, s1⟩ := hSy); go_simp <;> with_reducible rfl)
          try simp only [Act.put, List.setIfInBounds_toArray, List.set_cons_zero, List.set_cons_succ]
          refine lat_take 6 (v := ?_) rfl (by kernel_rfl) (by kernel_rfl) (by kernel_rfl) (by kernel_rfl) (fun _ _ _ h => h) (by rfl) ?_ (by assumption) ?_
          rotate_left
          · (intro y hSy; (try dsimp only at hSy); (try obtain ⟨s0, s1⟩ := hSy); go_simp <;> with_reducible rfl)
          try simp only [Act.put, List.setIfInBounds_toArray, List.set_cons_zero, List.set_cons_succ]
          refine lat_take 7 (v := ?_) rfl (by kernel_rfl) (by kernel_rfl) (by kernel_rfl) (by kernel_rfl) (fun _ _ _ h => h) (by rfl) ?_ (by assumption) ?_
          rotate_left
          · (intro y hSy; (try dsimp only at hSy); (try obtain ⟨s0, s1⟩ := hSy); go_simp <;> with_reducible rfl)
          try simp only [Act.put, List.setIfInBounds_toArray, List.set_cons_zero, List.set_cons_succ]
          refine lat_one 8 rfl (by kernel_rfl) (by decide) (by rfl) (fun K hK => ?_)
          go_simp
          refine Calls.mono HC.out ?_
          rintro e w5 ⟨a5, k5, c5, rfl, hk5, hq5⟩
          have HQ5 : Hid (PnS w0 P (w5.setCell ⟨P, 0, none⟩ (.slice a5 k5 c5)) (oa (oa (some Lk) (some [0])) (some (lay 8 (un t)))) (((N + 2 + kk * 201000) + 1) + 8)) := hq5
          have HK5 : Hid (KeepT P (wr.alloc (.cells #[.bool false, .string k, .bool false, .string v, .int .i64 t, .int .i64 o] 87)) w5) := (HZK.out.trans (KeepT.of_below (below_drew _))).trans (hk5 P)
          obtain ⟨d0, d1, g0, g1⟩ := pen_cells (pen_box HX3.out hk5)
          have HBX : Hid (w5.heap[wr.heap.size]? = some (.cells #[.bool false, .string k, .bool false, .string v, .int .i64 t, .int .i64 o] 87 (0, 0))) := HRX.out _ HK5.out
          have r0 := (box_at HBX.out 0).1
          have r1 := (box_at HBX.out 1).1
          have r2 := (box_at HBX.out 2).1
          have r3 := (box_at HBX.out 3).1
          have r4 := (box_at HBX.out 4).1
          have r5 := (box_at HBX.out 5).1
          simp only [List.getElem?_toArray, List.getElem?_cons_zero, List.getElem?_cons_succ] at r0 r1 r2 r3 r4 r5
          have hS5 : w5.cell? ⟨P, 0, none⟩ = some (.slice a3 k3 c3) ∧ w5.cell? ⟨wr.heap.size, 4, none⟩ = some (.int .i64 t) := ⟨d0, r4⟩
          clear hq5 hk5
          try dsimp only
          refine hK.out _ _ hS5 (fun hH2 => ?_)
          clear hK
          try simp only [Act.put, List.setIfInBounds_toArray, List.set_cons_zero, List.set_cons_succ]
          refine lat_take 9 (v := ?_) rfl (by kernel_rfl) (by kernel_rfl) (by kernel_rfl) (by kernel_rfl) (fun _ _ _ h => h) (by rfl) ?_ (by assumption) ?_
          rotate_left
          · (intro y hSy; (try dsimp only at hSy); (try obtain ⟨s0, s1⟩ := hSy); go_simp <;> with_reducible rfl)
          try simp only [Act.put, List.setIfInBounds_toArray, List.set_cons_zero, List.set_cons_succ]
          refine lat_take 10 (v := ?_) rfl (by kernel_rfl) (by kernel_rfl) (by kernel_rfl) (by kernel_rfl) (fun _ _ _ h => h) (by rfl) ?_ (by assumption) ?_
          rotate_left
          · (intro y hSy; (try dsimp only at hSy); (try obtain ⟨s0, s1⟩ := hSy); go_simp <;> with_reducible rfl)
          try simp only [Act.put, List.setIfInBounds_toArray, List.set_cons_zero, List.set_cons_succ]
          refine lat_last 11 rfl (by kernel_rfl) (by decide) (by kernel_rfl) (by rfl) (fun K hK => ?_)
          go_simp
          try dsimp only
          refine hK.out _ _ ?_
          clear hK
          try simp only [Act.put, List.setIfInBounds_toArray, List.set_cons_zero, List.set_cons_succ]
          go_wp2
          all_goals first
            | exact ⟨⟨kk + 1, by omega, by go_num, by rw [HNX.out, rec_bad (okR_no (by first | exact .inl (by simpa using (show (o != 0) = true by assumption)) | exact .inr (.inl ⟨rfl, size_some (by assumption)⟩) | exact .inr (.inr ⟨rfl, size_some (by assumption)⟩)))]; exact (PnS.setBad HQ5.out).1.mono (by omega), HYK.out.trans (HK5.out.trans ((KeepT.setCell _ _ _ _).trans (KeepT.setCell _ _ _ _)))⟩, by simp [iof]; omega⟩
            | exact ⟨⟨kk + 1, by omega, by go_num, by rw [HNX.out, ← HGD.out (okR_yes (by simpa using (show (o != 0) = false by assumption)) (by first | exact .inl rfl | exact .inr (size_none (by assumption))) (by first | exact .inl rfl | exact .inr (size_none (by assumption))))]; exact HQ5.out.mono (by omega), HYK.out.trans (HK5.out.trans (KeepT.setCell _ _ _ _))⟩, by simp [iof]; omega⟩
        · have HY : Hid ((wr.alloc (.cells #[.bool false, .string k, .bool true, .string v, .int .i64 t, .int .i64 o] 87)).heap[wr.heap.size]? = some (.cells #[.bool false, .string k, .bool true, .string v, .int .i64 t, .int .i64 o] 87 (0, 0))) := heap_alloc_new wr _
          have HYP : Hid (PnS w0 P (wr.alloc (.cells #[.bool false, .string k, .bool true, .string v, .int .i64 t, .int .i64 o] 87)) (some Lk) (N + 2 + kk * 201000)) := PnS.below HP.out (below_box _)
          have HYK : Hid (KeepT P w (wr.alloc (.cells #[.bool false, .string k, .bool true, .string v, .int .i64 t, .int .i64 o] 87))) := HKT.out.trans (KeepT.of_below (below_box _))
          have HYS : Hid ((wr.alloc (.cells #[.bool false, .string k, .bool true, .string v, .int .i64 t, .int .i64 o] 87)).heap.size = wr.heap.size + 1) := by show _ = _; simp
          have HNE : Hid (wr.heap.size ≠ P) := fun q => by obtain ⟨v0, l0, hx0, _⟩ := HP.out.ex; have := (Array.getElem?_eq_some_iff.1 hx0).1; omega
          have HRX : Hid (∀ x, KeepT P (wr.alloc (.cells #[.bool false, .string k, .bool true, .string v, .int .i64 t, .int .i64 o] 87)) x → x.heap[wr.heap.size]? = some (.cells #[.bool false, .string k, .bool true, .string v, .int .i64 t, .int .i64 o] 87 (0, 0))) := fun x hx => KeepT.box hx HY.out HNE.out (by decide)
          obtain ⟨a1, l1, k1, d0, d1, g0, g1, hx1, ho1, hb1, hl1, hs1⟩ := HYP.out.open
          have r0 := (box_at HY.out 0).1
          have r1 := (box_at HY.out 1).1
          have r2 := (box_at HY.out 2).1
          have r3 := (box_at HY.out 3).1
          have r4 := (box_at HY.out 4).1
          have r5 := (box_at HY.out 5).1
          simp only [List.getElem?_toArray, List.getElem?_cons_zero, List.getElem?_cons_succ] at r0 r1 r2 r3 r4 r5
          have HO1 : Hid ((wr.alloc (.cells #[.bool false, .string k, .bool true, .string v, .int .i64 t, .int .i64 o] 87)).ownsRow w0.heap.size 5 1 (.slice a1 l1.length k1) l1.length (cv l1)) := ho1
          have HX1 : Hid ((wr.alloc (.cells #[.bool false, .string k, .bool true, .string v, .int .i64 t, .int .i64 o] 87)).heap[P]? = some (.cells #[.slice a1 l1.length k1, .bool (some Lk : Ls).isNone] 79 (0, 0))) := hx1
          have HS1 : Hid (∀ L, some Lk = some L → l1 = L) := hs1
          have eb0 : bits BinOp.or IntKind.u8 0 2 = 2 := by decide
          have eb1 : bits BinOp.or IntKind.u8 1 2 = 3 := by decide
          have hne1 : ¬ wr.heap.size = P := HNE.out
          have hne2 : ¬ P = wr.heap.size := fun q => HNE.out q.symm
          have HLA : Hid ((l1 ++ [2] : List Nat).length = l1.length + 1) := by show _ = _; simp
          clear ho1 hx1 hs1
          have HGD : Hid (okR ⟨false, k, true, v, t, o⟩ = true → oa (oa (oa (some Lk) (some [2])) (eText v)) (some (lay 8 (un t))) = oa (some Lk) (eRec ⟨false, k, true, v, t, o⟩)) := fun h => by rw [← rec_good h, show lay 1 (headB false true) = [2] from rfl]; simp only [eIf, if_true, Bool.false_eq_true, if_false, oa_nil]
          have tok1 : True := trivial
          have HTX : Hid (∀ x s N' u, N' ≤ 700000000000 → u.size ≤ 100000 → PnS w0 P x s N' → Calls Tryd.prog 44 #[(.pointer (some ⟨P, 0, none⟩)), .string u] x (PP w0 P x (oa s (eText u)) (N' + 2 + u.size))) := fun x s N' u h1 h2 h3 => ptext_any w0 x P s N' u h1 (by omega) h3
          go_wp2_with (first
            | (at_builtin; have _h := tok1; refine wpList_append_rw (by rfl) _ _ rfl w0.heap.size _ l1 rfl (own_any HO1.out (below_box _)) (by have := HYP.out.bel.size; simp at this ⊢; omega) (some ⟨wr.heap.size + 1, 0, none⟩) 1 1 [2] rfl rfl (by have q := (head_row (wr.alloc (.cells #[.bool false, .string k, .bool true, .string v, .int .i64 t, .int .i64 o] 87)) 2 (by decide)).1; rw [HYS.out] at q; exact q) (fun c => by cases c) (by simp only [List.length_cons, List.length_nil]; omega) ?_; intro v' w2 ho2 hg2; obtain ⟨a2, c2, rfl⟩ := own_slice ho2; have hKA : ∀ B', KeepT B' (wr.alloc (.cells #[.bool false, .string k, .bool true, .string v, .int .i64 t, .int .i64 o] 87)) w2 := (fun B' => (KeepT.of_below (below_box _)).trans (KeepT.grown (own_any HO1.out (below_box _)) hg2)); have hF := PnS.app (M := N + 2 + kk * 201000 + 1) HX1.out hb1 hl1 HS1.out HLO.out ho2 ((HYP.out.bel.trans ((below_box _).mono HYP.out.bel.size)).grown hg2 (by have := HYP.out.bel.size; simp at this ⊢; omega) (fun k hk => (HO1.out.lt k hk).1)) hKA (lay_byt 1 2) (by simp); rw [HLA.out] at hF; have HF : Hid (PnS w0 P (w2.setCell ⟨P, 0, none⟩ (.slice a2 (l1.length + 1) c2)) (oa (some Lk) (some [2])) ((N + 2 + kk * 201000) + 1)) := hF.1; have HFK : Hid (KeepT P (wr.alloc (.cells #[.bool false, .string k, .bool true, .string v, .int .i64 t, .int .i64 o] 87)) (w2.setCell ⟨P, 0, none⟩ (.slice a2 (l1.length + 1) c2))) := hF.2; clear d0 d1 g0 g1 r0 r1 r2 r3 r4 r5; obtain ⟨d0, d1, g0, g1⟩ := pen_cells (pen_box HX1.out hKA); have HBX2 : Hid (w2.heap[wr.heap.size]? = some (.cells #[.bool false, .string k, .bool true, .string v, .int .i64 t, .int .i64 o] 87 (0, 0))) := HRX.out _ (hKA P); have r0 := (box_at HBX2.out 0).1; have r1 := (box_at HBX2.out 1).1; have r2 := (box_at HBX2.out 2).1; have r3 := (box_at HBX2.out 3).1; have r4 := (box_at HBX2.out 4).1; have r5 := (box_at HBX2.out 5).1; simp only [List.getElem?_toArray, List.getElem?_cons_zero, List.getElem?_cons_succ] at r0 r1 r2 r3 r4 r5; rw [HLA.out]; clear ho2 hg2 hF hKA _h tok1; have tok2 : True := trivial)
            | (have _h := tok2; go_at_call 44; refine Calls.mono (HTX.out _ _ _ v (by omega) (by omega) HF.out) ?_; rintro e w4 ⟨rfl, hq, hk⟩; have HP4 : Hid (PnS w0 P w4 (oa (oa (some Lk) (some [2])) (eText v)) (((N + 2 + kk * 201000) + 1) + 2 + v.size)) := hq; have HPK4 : Hid (KeepT P (wr.alloc (.cells #[.bool false, .string k, .bool true, .string v, .int .i64 t, .int .i64 o] 87)) w4) := HFK.out.trans hk; clear r0 r1 r2 r3 r4 r5; have HBXw4 : Hid (w4.heap[wr.heap.size]? = some (.cells #[.bool false, .string k, .bool true, .string v, .int .i64 t, .int .i64 o] 87 (0, 0))) := HRX.out _ HPK4.out; have r0 := (box_at HBXw4.out 0).1; have r1 := (box_at HBXw4.out 1).1; have r2 := (box_at HBXw4.out 2).1; have r3 := (box_at HBXw4.out 3).1; have r4 := (box_at HBXw4.out 4).1; have r5 := (box_at HBXw4.out 5).1; simp only [List.getElem?_toArray, List.getElem?_cons_zero, List.getElem?_cons_succ] at r0 r1 r2 r3 r4 r5; clear hq hk _h tok2; have tok4 : True := trivial))
          generalize w4 = z at *
          have HZ : Hid (PnS w0 P z (oa (oa (some Lk) (some [2])) (eText v)) (((N + 2 + kk * 201000) + 1) + 2 + v.size)) := HP4.out
          have HZK : Hid (KeepT P (wr.alloc (.cells #[.bool false, .string k, .bool true, .string v, .int .i64 t, .int .i64 o] 87)) z) := HPK4.out
          obtain ⟨a3, k3, c3, hx3, hC⟩ := pen_lay (by omega) (PnS.below HZ.out (below_drew _))
          have HC : Hid (Calls Tryd.prog 29 #[.slice a3 k3 c3, .int .i64 8, .int .u64 ((un t : Nat) : Int)] z.drew (PL w0 P z.drew (oa (oa (oa (some Lk) (some [2])) (eText v)) (some (lay 8 (un t)))) ((((N + 2 + kk * 201000) + 1) + 2 + v.size) + 8))) := hC 8 (un t) (by decide) HU.out.2
          have HX3 : Hid (z.drew.heap[P]? = some (.cells #[.slice a3 k3 c3, .bool ((oa (oa (some Lk) (some [2])) (eText v)) : Ls).isNone] 79 (0, 0))) := hx3
          obtain ⟨d0, d1, g0, g1⟩ := pen_cells HX3.out
          have hS0 : z.drew.cell? ⟨P, 0, none⟩ = some (.slice a3 k3 c3) ∧ z.drew.cell? ⟨wr.heap.size, 4, none⟩ = some (.int .i64 t) := ⟨d0, r4⟩
          clear hx3 hC d0 d1 g0 g1 r0 r1 r2 r3 r4 r5
          refine wp_region_lat (fun y : World => y.cell? ⟨P, 0, none⟩ = some (.slice a3 k3 c3) ∧ y.cell? ⟨wr.heap.size, 4, none⟩ = some (.int .i64 t)) 11 (by kernel_rfl) hS0 (fun hHeld => ?_)
          refine lat_take 0 (v := ?_) rfl (by kernel_rfl) (by kernel_rfl) (by kernel_rfl) (by kernel_rfl) (fun _ _ _ h => h) (by rfl) ?_ (by assumption) ?_
          rotate_left
          · (intro y hSy; (try dsimp only at hSy); (try obtain ⟨s0, s1⟩ := hSy); go_simp <;> with_reducible rfl)
          try simp only [Act.put, List.setIfInBounds_toArray, List.set_cons_zero, List.set_cons_succ]
          refine lat_take 1 (v := ?_) rfl (by kernel_rfl) (by kernel_rfl) (by kernel_rfl) (by kernel_rfl) (fun _ _ _ h => h) (by rfl) ?_ (by assumption) ?_
          rotate_left
          · (intro y hSy; (try dsimp only at hSy); (try obtain ⟨s0, s1⟩ := hSy); go_simp <;> with_reducible rfl)
          try simp only [Act.put, List.setIfInBounds_toArray, List.set_cons_zero, List.set_cons_succ]
          refine lat_take 2 (v := ?_) rfl (by kernel_rfl) (by kernel_rfl) (by kernel_rfl) (by kernel_rfl) (fun _ _ _ h => h) (by rfl) ?_ (by assumption) ?_
          rotate_left
          · (intro y hSy; (try dsimp only at hSy); (try obtain ⟨s0, s1⟩ := hSy); go_simp <;> with_reducible rfl)
          try simp only [Act.put, List.setIfInBounds_toArray, List.set_cons_zero, List.set_cons_succ]
          refine lat_take 3 (v := ?_) rfl (by kernel_rfl) (by kernel_rfl) (by kernel_rfl) (by kernel_rfl) (fun _ _ _ h => h) (by rfl) ?_ (by assumption) ?_
          rotate_left
          · (intro y hSy; (try dsimp only at hSy); (try obtain ⟨s0, s1⟩ := hSy); go_simp <;> with_reducible rfl)
          try simp only [Act.put, List.setIfInBounds_toArray, List.set_cons_zero, List.set_cons_succ]
          refine lat_take 4 (v := ?_) rfl (by kernel_rfl) (by kernel_rfl) (by kernel_rfl) (by kernel_rfl) (fun _ _ _ h => h) (by rfl) ?_ (by assumption) ?_
          rotate_left
          · (intro y hSy; (try dsimp only at hSy); (try obtain ⟨s0, s1⟩ := hSy); go_simp <;> with_reducible rfl)
          try simp only [Act.put, List.setIfInBounds_toArray, List.set_cons_zero, List.set_cons_succ]
          refine lat_take 5 (v := ?_) rfl (by kernel_rfl) (by kernel_rfl) (by kernel_rfl) (by kernel_rfl) (fun _ _ _ h => h) (by rfl) ?_ (by assumption) ?_
          rotate_left
          · (intro y hSy; (try dsimp only at hSy); (try obtain ⟨s0, s1⟩ := hSy); go_simp <;> with_reducible rfl)
          try simp only [Act.put, List.setIfInBounds_toArray, List.set_cons_zero, List.set_cons_succ]
          refine lat_take 6 (v := ?_) rfl (by kernel_rfl) (by kernel_rfl) (by kernel_rfl) (by kernel_rfl) (fun _ _ _ h => h) (by rfl) ?_ (by assumption) ?_
          rotate_left
          · (intro y hSy; (try dsimp only at hSy); (try obtain ⟨s0, s1⟩ := hSy); go_simp <;> with_reducible rfl)
          try simp only [Act.put, List.setIfInBounds_toArray, List.set_cons_zero, List.set_cons_succ]
          refine lat_take 7 (v := ?_) rfl (by kernel_rfl) (by kernel_rfl) (by kernel_rfl) (by kernel_rfl) (fun _ _ _ h => h) (by rfl) ?_ (by assumption) ?_
          rotate_left
          · (intro y hSy; (try dsimp only at hSy); (try obtain ⟨s0, s1⟩ := hSy); go_simp <;> with_reducible rfl)
          try simp only [Act.put, List.setIfInBounds_toArray, List.set_cons_zero, List.set_cons_succ]
          refine lat_one 8 rfl (by kernel_rfl) (by decide) (by rfl) (fun K hK => ?_)
          go_simp
          refine Calls.mono HC.out ?_
          rintro e w5 ⟨a5, k5, c5, rfl, hk5, hq5⟩
          have HQ5 : Hid (PnS w0 P (w5.setCell ⟨P, 0, none⟩ (.slice a5 k5 c5)) (oa (oa (oa (some Lk) (some [2])) (eText v)) (some (lay 8 (un t)))) ((((N + 2 + kk * 201000) + 1) + 2 + v.size) + 8)) := hq5
          have HK5 : Hid (KeepT P (wr.alloc (.cells #[.bool false, .string k, .bool true, .string v, .int .i64 t, .int .i64 o] 87)) w5) := (HZK.out.trans (KeepT.of_below (below_drew _))).trans (hk5 P)
          obtain ⟨d0, d1, g0, g1⟩ := pen_cells (pen_box HX3.out hk5)
          have HBX : Hid (w5.heap[wr.heap.size]? = some (.cells #[.bool false, .string k, .bool true, .string v, .int .i64 t, .int .i64 o] 87 (0, 0))) := HRX.out _ HK5.out
          have r0 := (box_at HBX.out 0).1
          have r1 := (box_at HBX.out 1).1
          have r2 := (box_at HBX.out 2).1
          have r3 := (box_at HBX.out 3).1
          have r4 := (box_at HBX.out 4).1
          have r5 := (box_at HBX.out 5).1
          simp only [List.getElem?_toArray, List.getElem?_cons_zero, List.getElem?_cons_succ] at r0 r1 r2 r3 r4 r5
          have hS5 : w5.cell? ⟨P, 0, none⟩ = some (.slice a3 k3 c3) ∧ w5.cell? ⟨wr.heap.size, 4, none⟩ = some (.int .i64 t) := ⟨d0, r4⟩
          clear hq5 hk5
          try dsimp only
          refine hK.out _ _ hS5 (fun hH2 => ?_)
          clear hK
          try simp only [Act.put, List.setIfInBounds_toArray, List.set_cons_zero, List.set_cons_succ]
          refine lat_take 9 (v := ?_) rfl (by kernel_rfl) (by kernel_rfl) (by kernel_rfl) (by kernel_rfl) (fun _ _ _ h => h) (by rfl) ?_ (by assumption) ?_
          rotate_left
          · (intro y hSy; (try dsimp only at hSy); (try obtain ⟨s0, s1⟩ := hSy); go_simp <;> with_reducible rfl)
          try simp only [Act.put, List.setIfInBounds_toArray, List.set_cons_zero, List.set_cons_succ]
          refine lat_take 10 (v := ?_) rfl (by kernel_rfl) (by kernel_rfl) (by kernel_rfl) (by kernel_rfl) (fun _ _ _ h => h) (by rfl) ?_ (by assumption) ?_
          rotate_left
          · (intro y hSy; (try dsimp only at hSy); (try obtain ⟨s0, s1⟩ := hSy); go_simp <;> with_reducible rfl)
          try simp only [Act.put, List.setIfInBounds_toArray, List.set_cons_zero, List.set_cons_succ]
          refine lat_last 11 rfl (by kernel_rfl) (by decide) (by kernel_rfl) (by rfl) (fun K hK => ?_)
          go_simp
          try dsimp only
          refine hK.out _ _ ?_
          clear hK
          try simp only [Act.put, List.setIfInBounds_toArray, List.set_cons_zero, List.set_cons_succ]
          go_wp2
          all_goals first
            | exact ⟨⟨kk + 1, by omega, by go_num, by rw [HNX.out, rec_bad (okR_no (by first | exact .inl (by simpa using (show (o != 0) = true by assumption)) | exact .inr (.inl ⟨rfl, size_some (by assumption)⟩) | exact .inr (.inr ⟨rfl, size_some (by assumption)⟩)))]; exact (PnS.setBad HQ5.out).1.mono (by omega), HYK.out.trans (HK5.out.trans ((KeepT.setCell _ _ _ _).trans (KeepT.setCell _ _ _ _)))⟩, by simp [iof]; omega⟩
            | exact ⟨⟨kk + 1, by omega, by go_num, by rw [HNX.out, ← HGD.out (okR_yes (by simpa using (show (o != 0) = false by assumption)) (by first | exact .inl rfl | exact .inr (size_none (by assumption))) (by first | exact .inl rfl | exact .inr (size_none (by assumption))))]; exact HQ5.out.mono (by omega), HYK.out.trans (HK5.out.trans (KeepT.setCell _ _ _ _))⟩, by simp [iof]; omega⟩
        · have HY : Hid ((wr.alloc (.cells #[.bool true, .string k, .bool false, .string v, .int .i64 t, .int .i64 o] 87)).heap[wr.heap.size]? = some (.cells #[.bool true, .string k, .bool false, .string v, .int .i64 t, .int .i64 o] 87 (0, 0))) := heap_alloc_new wr _
          have HYP : Hid (PnS w0 P (wr.alloc (.cells #[.bool true, .string k, .bool false, .string v, .int .i64 t, .int .i64 o] 87)) (some Lk) (N + 2 + kk * 201000)) := PnS.below HP.out (below_box _)
          have HYK : Hid (KeepT P w (wr.alloc (.cells #[.bool true, .string k, .bool false, .string v, .int .i64 t, .int .i64 o] 87))) := HKT.out.trans (KeepT.of_below (below_box _))
          have HYS : Hid ((wr.alloc (.cells #[.bool true, .string k, .bool false, .string v, .int .i64 t, .int .i64 o] 87)).heap.size = wr.heap.size + 1) := by show _ = _; simp
          have HNE : Hid (wr.heap.size ≠ P) := fun q => by obtain ⟨v0, l0, hx0, _⟩ := HP.out.ex; have := (Array.getElem?_eq_some_iff.1 hx0).1; omega
          have HRX : Hid (∀ x, KeepT P (wr.alloc (.cells #[.bool true, .string k, .bool false, .string v, .int .i64 t, .int .i64 o] 87)) x → x.heap[wr.heap.size]? = some (.cells #[.bool true, .string k, .bool false, .string v, .int .i64 t, .int .i64 o] 87 (0, 0))) := fun x hx => KeepT.box hx HY.out HNE.out (by decide)
          obtain ⟨a1, l1, k1, d0, d1, g0, g1, hx1, ho1, hb1, hl1, hs1⟩ := HYP.out.open
          have r0 := (box_at HY.out 0).1
          have r1 := (box_at HY.out 1).1
          have r2 := (box_at HY.out 2).1
          have r3 := (box_at HY.out 3).1
          have r4 := (box_at HY.out 4).1
          have r5 := (box_at HY.out 5).1
          simp only [List.getElem?_toArray, List.getElem?_cons_zero, List.getElem?_cons_succ] at r0 r1 r2 r3 r4 r5
          have HO1 : Hid ((wr.alloc (.cells #[.bool true, .string k, .bool false, .string v, .int .i64 t, .int .i64 o] 87)).ownsRow w0.heap.size 5 1 (.slice a1 l1.length k1) l1.length (cv l1)) := ho1
          have HX1 : Hid ((wr.alloc (.cells #[.bool true, .string k, .bool false, .string v, .int .i64 t, .int .i64 o] 87)).heap[P]? = some (.cells #[.slice a1 l1.length k1, .bool (some Lk : Ls).isNone] 79 (0, 0))) := hx1
          have HS1 : Hid (∀ L, some Lk = some L → l1 = L) := hs1
          have eb0 : bits BinOp.or IntKind.u8 0 2 = 2 := by decide
          have eb1 : bits BinOp.or IntKind.u8 1 2 = 3 := by decide
          have hne1 : ¬ wr.heap.size = P := HNE.out
          have hne2 : ¬ P = wr.heap.size := fun q => HNE.out q.symm
          have HLA : Hid ((l1 ++ [1] : List Nat).length = l1.length + 1) := by show _ = _; simp
          clear ho1 hx1 hs1
          have HGD : Hid (okR ⟨true, k, false, v, t, o⟩ = true → oa (oa (oa (some Lk) (some [1])) (eText k)) (some (lay 8 (un t))) = oa (some Lk) (eRec ⟨true, k, false, v, t, o⟩)) := fun h => by rw [← rec_good h, show lay 1 (headB true false) = [1] from rfl]; simp only [eIf, if_true, Bool.false_eq_true, if_false, oa_nil]
          have tok1 : True := trivial
          have HTX : Hid (∀ x s N' u, N' ≤ 700000000000 → u.size ≤ 100000 → PnS w0 P x s N' → Calls Tryd.prog 44 #[(.pointer (some ⟨P, 0, none⟩)), .string u] x (PP w0 P x (oa s (eText u)) (N' + 2 + u.size))) := fun x s N' u h1 h2 h3 => ptext_any w0 x P s N' u h1 (by omega) h3
          go_wp2_with (first
            | (at_builtin; have _h := tok1; refine wpList_append_rw (by rfl) _ _ rfl w0.heap.size _ l1 rfl (own_any HO1.out (below_box _)) (by have := HYP.out.bel.size; simp at this ⊢; omega) (some ⟨wr.heap.size + 1, 0, none⟩) 1 1 [1] rfl rfl (by have q := (head_row (wr.alloc (.cells #[.bool true, .string k, .bool false, .string v, .int .i64 t, .int .i64 o] 87)) 1 (by decide)).1; rw [HYS.out] at q; exact q) (fun c => by cases c) (by simp only [List.length_cons, List.length_nil]; omega) ?_; intro v' w2 ho2 hg2; obtain ⟨a2, c2, rfl⟩ := own_slice ho2; have hKA : ∀ B', KeepT B' (wr.alloc (.cells #[.bool true, .string k, .bool false, .string v, .int .i64 t, .int .i64 o] 87)) w2 := (fun B' => (KeepT.of_below (below_box _)).trans (KeepT.grown (own_any HO1.out (below_box _)) hg2)); have hF := PnS.app (M := N + 2 + kk * 201000 + 1) HX1.out hb1 hl1 HS1.out HLO.out ho2 ((HYP.out.bel.trans ((below_box _).mono HYP.out.bel.size)).grown hg2 (by have := HYP.out.bel.size; simp at this ⊢; omega) (fun k hk => (HO1.out.lt k hk).1)) hKA (lay_byt 1 1) (by simp); rw [HLA.out] at hF; have HF : Hid (PnS w0 P (w2.setCell ⟨P, 0, none⟩ (.slice a2 (l1.length + 1) c2)) (oa (some Lk) (some [1])) ((N + 2 + kk * 201000) + 1)) := hF.1; have HFK : Hid (KeepT P (wr.alloc (.cells #[.bool true, .string k, .bool false, .string v, .int .i64 t, .int .i64 o] 87)) (w2.setCell ⟨P, 0, none⟩ (.slice a2 (l1.length + 1) c2))) := hF.2; clear d0 d1 g0 g1 r0 r1 r2 r3 r4 r5; obtain ⟨d0, d1, g0, g1⟩ := pen_cells (pen_box HX1.out hKA); have HBX2 : Hid (w2.heap[wr.heap.size]? = some (.cells #[.bool true, .string k, .bool false, .string v, .int .i64 t, .int .i64 o] 87 (0, 0))) := HRX.out _ (hKA P); have r0 := (box_at HBX2.out 0).1; have r1 := (box_at HBX2.out 1).1; have r2 := (box_at HBX2.out 2).1; have r3 := (box_at HBX2.out 3).1; have r4 := (box_at HBX2.out 4).1; have r5 := (box_at HBX2.out 5).1; simp only [List.getElem?_toArray, List.getElem?_cons_zero, List.getElem?_cons_succ] at r0 r1 r2 r3 r4 r5; rw [HLA.out]; clear ho2 hg2 hF hKA _h tok1; have tok2 : True := trivial)
            | (have _h := tok2; go_at_call 44; refine Calls.mono (HTX.out _ _ _ k (by omega) (by omega) HF.out) ?_; rintro e w3 ⟨rfl, hq, hk⟩; have HP3 : Hid (PnS w0 P w3 (oa (oa (some Lk) (some [1])) (eText k)) (((N + 2 + kk * 201000) + 1) + 2 + k.size)) := hq; have HPK3 : Hid (KeepT P (wr.alloc (.cells #[.bool true, .string k, .bool false, .string v, .int .i64 t, .int .i64 o] 87)) w3) := HFK.out.trans hk; clear r0 r1 r2 r3 r4 r5; have HBXw3 : Hid (w3.heap[wr.heap.size]? = some (.cells #[.bool true, .string k, .bool false, .string v, .int .i64 t, .int .i64 o] 87 (0, 0))) := HRX.out _ HPK3.out; have r0 := (box_at HBXw3.out 0).1; have r1 := (box_at HBXw3.out 1).1; have r2 := (box_at HBXw3.out 2).1; have r3 := (box_at HBXw3.out 3).1; have r4 := (box_at HBXw3.out 4).1; have r5 := (box_at HBXw3.out 5).1; simp only [List.getElem?_toArray, List.getElem?_cons_zero, List.getElem?_cons_succ] at r0 r1 r2 r3 r4 r5; clear hq hk _h tok2; have tok3 : True := trivial))
          generalize w3 = z at *
          have HZ : Hid (PnS w0 P z (oa (oa (some Lk) (some [1])) (eText k)) (((N + 2 + kk * 201000) + 1) + 2 + k.size)) := HP3.out
          have HZK : Hid (KeepT P (wr.alloc (.cells #[.bool true, .string k, .bool false, .string v, .int .i64 t, .int .i64 o] 87)) z) := HPK3.out
          obtain ⟨a3, k3, c3, hx3, hC⟩ := pen_lay (by omega) (PnS.below HZ.out (below_drew _))
          have HC : Hid (Calls Tryd.prog 29 #[.slice a3 k3 c3, .int .i64 8, .int .u64 ((un t : Nat) : Int)] z.drew (PL w0 P z.drew (oa (oa (oa (some Lk) (some [1])) (eText k)) (some (lay 8 (un t)))) ((((N + 2 + kk * 201000) + 1) + 2 + k.size) + 8))) := hC 8 (un t) (by decide) HU.out.2
          have HX3 : Hid (z.drew.heap[P]? = some (.cells #[.slice a3 k3 c3, .bool ((oa (oa (some Lk) (some [1])) (eText k)) : Ls).isNone] 79 (0, 0))) := hx3
          obtain ⟨d0, d1, g0, g1⟩ := pen_cells HX3.out
          have hS0 : z.drew.cell? ⟨P, 0, none⟩ = some (.slice a3 k3 c3) ∧ z.drew.cell? ⟨wr.heap.size, 4, none⟩ = some (.int .i64 t) := ⟨d0, r4⟩
          clear hx3 hC d0 d1 g0 g1 r0 r1 r2 r3 r4 r5
          refine wp_region_lat (fun y : World => y.cell? ⟨P, 0, none⟩ = some (.slice a3 k3 c3) ∧ y.cell? ⟨wr.heap.size, 4, none⟩ = some (.int .i64 t)) 11 (by kernel_rfl) hS0 (fun hHeld => ?_)
          refine lat_take 0 (v := ?_) rfl (by kernel_rfl) (by kernel_rfl) (by kernel_rfl) (by kernel_rfl) (fun _ _ _ h => h) (by rfl) ?_ (by assumption) ?_
          rotate_left
          · (intro y hSy; (try dsimp only at hSy); (try obtain ⟨s0, s1⟩ := hSy); go_simp <;> with_reducible rfl)
          try simp only [Act.put, List.setIfInBounds_toArray, List.set_cons_zero, List.set_cons_succ]
          refine lat_take 1 (v := ?_) rfl (by kernel_rfl) (by kernel_rfl) (by kernel_rfl) (by kernel_rfl) (fun _ _ _ h => h) (by rfl) ?_ (by assumption) ?_
          rotate_left
          · (intro y hSy; (try dsimp only at hSy); (try obtain ⟨s0, s1⟩ := hSy); go_simp <;> with_reducible rfl)
          try simp only [Act.put, List.setIfInBounds_toArray, List.set_cons_zero, List.set_cons_succ]
          refine lat_take 2 (v := ?_) rfl (by kernel_rfl) (by kernel_rfl) (by kernel_rfl) (by kernel_rfl) (fun _ _ _ h => h) (by rfl) ?_ (by assumption) ?_
          rotate_left
          · (intro y hSy; (try dsimp only at hSy); (try obtain ⟨s0, s1⟩ := hSy); go_simp <;> with_reducible rfl)
          try simp only [Act.put, List.setIfInBounds_toArray, List.set_cons_zero, List.set_cons_succ]
          refine lat_take 3 (v := ?_) rfl (by kernel_rfl) (by kernel_rfl) (by kernel_rfl) (by kernel_rfl) (fun _ _ _ h => h) (by rfl) ?_ (by assumption) ?_
          rotate_left
          · (intro y hSy; (try dsimp only at hSy); (try obtain ⟨s0, s1⟩ := hSy); go_simp <;> with_reducible rfl)
          try simp only [Act.put, List.setIfInBounds_toArray, List.set_cons_zero, List.set_cons_succ]
          refine lat_take 4 (v := ?_) rfl (by kernel_rfl) (by kernel_rfl) (by kernel_rfl) (by kernel_rfl) (fun _ _ _ h => h) (by rfl) ?_ (by assumption) ?_
          rotate_left
          · (intro y hSy; (try dsimp only at hSy); (try obtain ⟨s0, s1⟩ := hSy); go_simp <;> with_reducible rfl)
          try simp only [Act.put, List.setIfInBounds_toArray, List.set_cons_zero, List.set_cons_succ]
          refine lat_take 5 (v := ?_) rfl (by kernel_rfl) (by kernel_rfl) (by kernel_rfl) (by kernel_rfl) (fun _ _ _ h => h) (by rfl) ?_ (by assumption) ?_
          rotate_left
          · (intro y hSy; (try dsimp only at hSy); (try obtain ⟨s0, s1⟩ := hSy); go_simp <;> with_reducible rfl)
          try simp only [Act.put, List.setIfInBounds_toArray, List.set_cons_zero, List.set_cons_succ]
          refine lat_take 6 (v := ?_) rfl (by kernel_rfl) (by kernel_rfl) (by kernel_rfl) (by kernel_rfl) (fun _ _ _ h => h) (by rfl) ?_ (by assumption) ?_
          rotate_left
          · (intro y hSy; (try dsimp only at hSy); (try obtain ⟨s0, s1⟩ := hSy); go_simp <;> with_reducible rfl)
          try simp only [Act.put, List.setIfInBounds_toArray, List.set_cons_zero, List.set_cons_succ]
          refine lat_take 7 (v := ?_) rfl (by kernel_rfl) (by kernel_rfl) (by kernel_rfl) (by kernel_rfl) (fun _ _ _ h => h) (by rfl) ?_ (by assumption) ?_
          rotate_left
          · (intro y hSy; (try dsimp only at hSy); (try obtain ⟨s0, s1⟩ := hSy); go_simp <;> with_reducible rfl)
          try simp only [Act.put, List.setIfInBounds_toArray, List.set_cons_zero, List.set_cons_succ]
          refine lat_one 8 rfl (by kernel_rfl) (by decide) (by rfl) (fun K hK => ?_)
          go_simp
          refine Calls.mono HC.out ?_
          rintro e w5 ⟨a5, k5, c5, rfl, hk5, hq5⟩
          have HQ5 : Hid (PnS w0 P (w5.setCell ⟨P, 0, none⟩ (.slice a5 k5 c5)) (oa (oa (oa (some Lk) (some [1])) (eText k)) (some (lay 8 (un t)))) ((((N + 2 + kk * 201000) + 1) + 2 + k.size) + 8)) := hq5
          have HK5 : Hid (KeepT P (wr.alloc (.cells #[.bool true, .string k, .bool false, .string v, .int .i64 t, .int .i64 o] 87)) w5) := (HZK.out.trans (KeepT.of_below (below_drew _))).trans (hk5 P)
          obtain ⟨d0, d1, g0, g1⟩ := pen_cells (pen_box HX3.out hk5)
          have HBX : Hid (w5.heap[wr.heap.size]? = some (.cells #[.bool true, .string k, .bool false, .string v, .int .i64 t, .int .i64 o] 87 (0, 0))) := HRX.out _ HK5.out
          have r0 := (box_at HBX.out 0).1
          have r1 := (box_at HBX.out 1).1
          have r2 := (box_at HBX.out 2).1
          have r3 := (box_at HBX.out 3).1
          have r4 := (box_at HBX.out 4).1
          have r5 := (box_at HBX.out 5).1
          simp only [List.getElem?_toArray, List.getElem?_cons_zero, List.getElem?_cons_succ] at r0 r1 r2 r3 r4 r5
          have hS5 : w5.cell? ⟨P, 0, none⟩ = some (.slice a3 k3 c3) ∧ w5.cell? ⟨wr.heap.size, 4, none⟩ = some (.int .i64 t) := ⟨d0, r4⟩
          clear hq5 hk5
          try dsimp only
          refine hK.out _ _ hS5 (fun hH2 => ?_)
          clear hK
          try simp only [Act.put, List.setIfInBounds_toArray, List.set_cons_zero, List.set_cons_succ]
          refine lat_take 9 (v := ?_) rfl (by kernel_rfl) (by kernel_rfl) (by kernel_rfl) (by kernel_rfl) (fun _ _ _ h => h) (by rfl) ?_ (by assumption) ?_
          rotate_left
          · (intro y hSy; (try dsimp only at hSy); (try obtain ⟨s0, s1⟩ := hSy); go_simp <;> with_reducible rfl)
          try simp only [Act.put, List.setIfInBounds_toArray, List.set_cons_zero, List.set_cons_succ]
          refine lat_take 10 (v := ?_) rfl (by kernel_rfl) (by kernel_rfl) (by kernel_rfl) (by kernel_rfl) (fun _ _ _ h => h) (by rfl) ?_ (by assumption) ?_
          rotate_left
          · (intro y hSy; (try dsimp only at hSy); (try obtain ⟨s0, s1⟩ := hSy); go_simp <;> with_reducible rfl)
          try simp only [Act.put, List.setIfInBounds_toArray, List.set_cons_zero, List.set_cons_succ]
          refine lat_last 11 rfl (by kernel_rfl) (by decide) (by kernel_rfl) (by rfl) (fun K hK => ?_)
          go_simp
          try dsimp only
          refine hK.out _ _ ?_
          clear hK
          try simp only [Act.put, List.setIfInBounds_toArray, List.set_cons_zero, List.set_cons_succ]
          go_wp2
          all_goals first
            | exact ⟨⟨kk + 1, by omega, by go_num, by rw [HNX.out, rec_bad (okR_no (by first | exact .inl (by simpa using (show (o != 0) = true by assumption)) | exact .inr (.inl ⟨rfl, size_some (by assumption)⟩) | exact .inr (.inr ⟨rfl, size_some (by assumption)⟩)))]; exact (PnS.setBad HQ5.out).1.mono (by omega), HYK.out.trans (HK5.out.trans ((KeepT.setCell _ _ _ _).trans (KeepT.setCell _ _ _ _)))⟩, by simp [iof]; omega⟩
            | exact ⟨⟨kk + 1, by omega, by go_num, by rw [HNX.out, ← HGD.out (okR_yes (by simpa using (show (o != 0) = false by assumption)) (by first | exact .inl rfl | exact .inr (size_none (by assumption))) (by first | exact .inl rfl | exact .inr (size_none (by assumption))))]; exact HQ5.out.mono (by omega), HYK.out.trans (HK5.out.trans (KeepT.setCell _ _ _ _))⟩, by simp [iof]; omega⟩
        · have HY : Hid ((wr.alloc (.cells #[.bool true, .string k, .bool true, .string v, .int .i64 t, .int .i64 o] 87)).heap[wr.heap.size]? = some (.cells #[.bool true, .string k, .bool true, .string v, .int .i64 t, .int .i64 o] 87 (0, 0))) := heap_alloc_new wr _
          have HYP : Hid (PnS w0 P (wr.alloc (.cells #[.bool true, .string k, .bool true, .string v, .int .i64 t, .int .i64 o] 87)) (some Lk) (N + 2 + kk * 201000)) := PnS.below HP.out (below_box _)
          have HYK : Hid (KeepT P w (wr.alloc (.cells #[.bool true, .string k, .bool true, .string v, .int .i64 t, .int .i64 o] 87))) := HKT.out.trans (KeepT.of_below (below_box _))
          have HYS : Hid ((wr.alloc (.cells #[.bool true, .string k, .bool true, .string v, .int .i64 t, .int .i64 o] 87)).heap.size = wr.heap.size + 1) := by show _ = _; simp
          have HNE : Hid (wr.heap.size ≠ P) := fun q => by obtain ⟨v0, l0, hx0, _⟩ := HP.out.ex; have := (Array.getElem?_eq_some_iff.1 hx0).1; omega
          have HRX : Hid (∀ x, KeepT P (wr.alloc (.cells #[.bool true, .string k, .bool true, .string v, .int .i64 t, .int .i64 o] 87)) x → x.heap[wr.heap.size]? = some (.cells #[.bool true, .string k, .bool true, .string v, .int .i64 t, .int .i64 o] 87 (0, 0))) := fun x hx => KeepT.box hx HY.out HNE.out (by decide)
          obtain ⟨a1, l1, k1, d0, d1, g0, g1, hx1, ho1, hb1, hl1, hs1⟩ := HYP.out.open
          have r0 := (box_at HY.out 0).1
          have r1 := (box_at HY.out 1).1
          have r2 := (box_at HY.out 2).1
          have r3 := (box_at HY.out 3).1
          have r4 := (box_at HY.out 4).1
          have r5 := (box_at HY.out 5).1
          simp only [List.getElem?_toArray, List.getElem?_cons_zero, List.getElem?_cons_succ] at r0 r1 r2 r3 r4 r5
          have HO1 : Hid ((wr.alloc (.cells #[.bool true, .string k, .bool true, .string v, .int .i64 t, .int .i64 o] 87)).ownsRow w0.heap.size 5 1 (.slice a1 l1.length k1) l1.length (cv l1)) := ho1
          have HX1 : Hid ((wr.alloc (.cells #[.bool true, .string k, .bool true, .string v, .int .i64 t, .int .i64 o] 87)).heap[P]? = some (.cells #[.slice a1 l1.length k1, .bool (some Lk : Ls).isNone] 79 (0, 0))) := hx1
          have HS1 : Hid (∀ L, some Lk = some L → l1 = L) := hs1
          have eb0 : bits BinOp.or IntKind.u8 0 2 = 2 := by decide
          have eb1 : bits BinOp.or IntKind.u8 1 2 = 3 := by decide
          have hne1 : ¬ wr.heap.size = P := HNE.out
          have hne2 : ¬ P = wr.heap.size := fun q => HNE.out q.symm
          have HLA : Hid ((l1 ++ [3] : List Nat).length = l1.length + 1) := by show _ = _; simp
          clear ho1 hx1 hs1
          have HGD : Hid (okR ⟨true, k, true, v, t, o⟩ = true → oa (oa (oa (oa (some Lk) (some [3])) (eText k)) (eText v)) (some (lay 8 (un t))) = oa (some Lk) (eRec ⟨true, k, true, v, t, o⟩)) := fun h => by rw [← rec_good h, show lay 1 (headB true true) = [3] from rfl]; simp only [eIf, if_true, Bool.false_eq_true, if_false, oa_nil]
          have tok1 : True := trivial
          have HTX : Hid (∀ x s N' u, N' ≤ 700000000000 → u.size ≤ 100000 → PnS w0 P x s N' → Calls Tryd.prog 44 #[(.pointer (some ⟨P, 0, none⟩)), .string u] x (PP w0 P x (oa s (eText u)) (N' + 2 + u.size))) := fun x s N' u h1 h2 h3 => ptext_any w0 x P s N' u h1 (by omega) h3
          go_wp2_with (first
            | (at_builtin; have _h := tok1; refine wpList_append_rw (by rfl) _ _ rfl w0.heap.size _ l1 rfl (own_any HO1.out (below_box _)) (by have := HYP.out.bel.size; simp at this ⊢; omega) (some ⟨wr.heap.size + 1, 0, none⟩) 1 1 [3] rfl rfl (by have q := (head_row (wr.alloc (.cells #[.bool true, .string k, .bool true, .string v, .int .i64 t, .int .i64 o] 87)) 3 (by decide)).1; rw [HYS.out] at q; exact q) (fun c => by cases c) (by simp only [List.length_cons, List.length_nil]; omega) ?_; intro v' w2 ho2 hg2; obtain ⟨a2, c2, rfl⟩ := own_slice ho2; have hKA : ∀ B', KeepT B' (wr.alloc (.cells #[.bool true, .string k, .bool true, .string v, .int .i64 t, .int .i64 o] 87)) w2 := (fun B' => (KeepT.of_below (below_box _)).trans (KeepT.grown (own_any HO1.out (below_box _)) hg2)); have hF := PnS.app (M := N + 2 + kk * 201000 + 1) HX1.out hb1 hl1 HS1.out HLO.out ho2 ((HYP.out.bel.trans ((below_box _).mono HYP.out.bel.size)).grown hg2 (by have := HYP.out.bel.size; simp at this ⊢; omega) (fun k hk => (HO1.out.lt k hk).1)) hKA (lay_byt 1 3) (by simp); rw [HLA.out] at hF; have HF : Hid (PnS w0 P (w2.setCell ⟨P, 0, none⟩ (.slice a2 (l1.length + 1) c2)) (oa (some Lk) (some [3])) ((N + 2 + kk * 201000) + 1)) := hF.1; have HFK : Hid (KeepT P (wr.alloc (.cells #[.bool true, .string k, .bool true, .string v, .int .i64 t, .int .i64 o] 87)) (w2.setCell ⟨P, 0, none⟩ (.slice a2 (l1.length + 1) c2))) := hF.2; clear d0 d1 g0 g1 r0 r1 r2 r3 r4 r5; obtain ⟨d0, d1, g0, g1⟩ := pen_cells (pen_box HX1.out hKA); have HBX2 : Hid (w2.heap[wr.heap.size]? = some (.cells #[.bool true, .string k, .bool true, .string v, .int .i64 t, .int .i64 o] 87 (0, 0))) := HRX.out _ (hKA P); have r0 := (box_at HBX2.out 0).1; have r1 := (box_at HBX2.out 1).1; have r2 := (box_at HBX2.out 2).1; have r3 := (box_at HBX2.out 3).1; have r4 := (box_at HBX2.out 4).1; have r5 := (box_at HBX2.out 5).1; simp only [List.getElem?_toArray, List.getElem?_cons_zero, List.getElem?_cons_succ] at r0 r1 r2 r3 r4 r5; rw [HLA.out]; clear ho2 hg2 hF hKA _h tok1; have tok2 : True := trivial)
            | (have _h := tok2; go_at_call 44; refine Calls.mono (HTX.out _ _ _ k (by omega) (by omega) HF.out) ?_; rintro e w3 ⟨rfl, hq, hk⟩; have HP3 : Hid (PnS w0 P w3 (oa (oa (some Lk) (some [3])) (eText k)) (((N + 2 + kk * 201000) + 1) + 2 + k.size)) := hq; have HPK3 : Hid (KeepT P (wr.alloc (.cells #[.bool true, .string k, .bool true, .string v, .int .i64 t, .int .i64 o] 87)) w3) := HFK.out.trans hk; clear r0 r1 r2 r3 r4 r5; have HBXw3 : Hid (w3.heap[wr.heap.size]? = some (.cells #[.bool true, .string k, .bool true, .string v, .int .i64 t, .int .i64 o] 87 (0, 0))) := HRX.out _ HPK3.out; have r0 := (box_at HBXw3.out 0).1; have r1 := (box_at HBXw3.out 1).1; have r2 := (box_at HBXw3.out 2).1; have r3 := (box_at HBXw3.out 3).1; have r4 := (box_at HBXw3.out 4).1; have r5 := (box_at HBXw3.out 5).1; simp only [List.getElem?_toArray, List.getElem?_cons_zero, List.getElem?_cons_succ] at r0 r1 r2 r3 r4 r5; clear hq hk _h tok2; have tok3 : True := trivial)
            | (have _h := tok3; go_at_call 44; refine Calls.mono (HTX.out _ _ _ v (by omega) (by omega) HP3.out) ?_; rintro e w4 ⟨rfl, hq, hk⟩; have HP4 : Hid (PnS w0 P w4 (oa (oa (oa (some Lk) (some [3])) (eText k)) (eText v)) ((((N + 2 + kk * 201000) + 1) + 2 + k.size) + 2 + v.size)) := hq; have HPK4 : Hid (KeepT P (wr.alloc (.cells #[.bool true, .string k, .bool true, .string v, .int .i64 t, .int .i64 o] 87)) w4) := HPK3.out.trans hk; clear r0 r1 r2 r3 r4 r5; have HBXw4 : Hid (w4.heap[wr.heap.size]? = some (.cells #[.bool true, .string k, .bool true, .string v, .int .i64 t, .int .i64 o] 87 (0, 0))) := HRX.out _ HPK4.out; have r0 := (box_at HBXw4.out 0).1; have r1 := (box_at HBXw4.out 1).1; have r2 := (box_at HBXw4.out 2).1; have r3 := (box_at HBXw4.out 3).1; have r4 := (box_at HBXw4.out 4).1; have r5 := (box_at HBXw4.out 5).1; simp only [List.getElem?_toArray, List.getElem?_cons_zero, List.getElem?_cons_succ] at r0 r1 r2 r3 r4 r5; clear hq hk _h tok3; have tok4 : True := trivial))
          generalize w4 = z at *
          have HZ : Hid (PnS w0 P z (oa (oa (oa (some Lk) (some [3])) (eText k)) (eText v)) ((((N + 2 + kk * 201000) + 1) + 2 + k.size) + 2 + v.size)) := HP4.out
          have HZK : Hid (KeepT P (wr.alloc (.cells #[.bool true, .string k, .bool true, .string v, .int .i64 t, .int .i64 o] 87)) z) := HPK4.out
          obtain ⟨a3, k3, c3, hx3, hC⟩ := pen_lay (by omega) (PnS.below HZ.out (below_drew _))
          have HC : Hid (Calls Tryd.prog 29 #[.slice a3 k3 c3, .int .i64 8, .int .u64 ((un t : Nat) : Int)] z.drew (PL w0 P z.drew (oa (oa (oa (oa (some Lk) (some [3])) (eText k)) (eText v)) (some (lay 8 (un t)))) (((((N + 2 + kk * 201000) + 1) + 2 + k.size) + 2 + v.size) + 8))) := hC 8 (un t) (by decide) HU.out.2
          have HX3 : Hid (z.drew.heap[P]? = some (.cells #[.slice a3 k3 c3, .bool ((oa (oa (oa (some Lk) (some [3])) (eText k)) (eText v)) : Ls).isNone] 79 (0, 0))) := hx3
          obtain ⟨d0, d1, g0, g1⟩ := pen_cells HX3.out
          have hS0 : z.drew.cell? ⟨P, 0, none⟩ = some (.slice a3 k3 c3) ∧ z.drew.cell? ⟨wr.heap.size, 4, none⟩ = some (.int .i64 t) := ⟨d0, r4⟩
          clear hx3 hC d0 d1 g0 g1 r0 r1 r2 r3 r4 r5
          refine wp_region_lat (fun y : World => y.cell? ⟨P, 0, none⟩ = some (.slice a3 k3 c3) ∧ y.cell? ⟨wr.heap.size, 4, none⟩ = some (.int .i64 t)) 11 (by kernel_rfl) hS0 (fun hHeld => ?_)
          refine lat_take 0 (v := ?_) rfl (by kernel_rfl) (by kernel_rfl) (by kernel_rfl) (by kernel_rfl) (fun _ _ _ h => h) (by rfl) ?_ (by assumption) ?_
          rotate_left
          · (intro y hSy; (try dsimp only at hSy); (try obtain ⟨s0, s1⟩ := hSy); go_simp <;> with_reducible rfl)
          try simp only [Act.put, List.setIfInBounds_toArray, List.set_cons_zero, List.set_cons_succ]
          refine lat_take 1 (v := ?_) rfl (by kernel_rfl) (by kernel_rfl) (by kernel_rfl) (by kernel_rfl) (fun _ _ _ h => h) (by rfl) ?_ (by assumption) ?_
          rotate_left
          · (intro y hSy; (try dsimp only at hSy); (try obtain ⟨s0, s1⟩ := hSy); go_simp <;> with_reducible rfl)
          try simp only [Act.put, List.setIfInBounds_toArray, List.set_cons_zero, List.set_cons_succ]
          refine lat_take 2 (v := ?_) rfl (by kernel_rfl) (by kernel_rfl) (by kernel_rfl) (by kernel_rfl) (fun _ _ _ h => h) (by rfl) ?_ (by assumption) ?_
          rotate_left
          · (intro y hSy; (try dsimp only at hSy); (try obtain ⟨s0, s1⟩ := hSy); go_simp <;> with_reducible rfl)
          try simp only [Act.put, List.setIfInBounds_toArray, List.set_cons_zero, List.set_cons_succ]
          refine lat_take 3 (v := ?_) rfl (by kernel_rfl) (by kernel_rfl) (by kernel_rfl) (by kernel_rfl) (fun _ _ _ h => h) (by rfl) ?_ (by assumption) ?_
          rotate_left
          · (intro y hSy; (try dsimp only at hSy); (try obtain ⟨s0, s1⟩ := hSy); go_simp <;> with_reducible rfl)
          try simp only [Act.put, List.setIfInBounds_toArray, List.set_cons_zero, List.set_cons_succ]
          refine lat_take 4 (v := ?_) rfl (by kernel_rfl) (by kernel_rfl) (by kernel_rfl) (by kernel_rfl) (fun _ _ _ h => h) (by rfl) ?_ (by assumption) ?_
          rotate_left
          · (intro y hSy; (try dsimp only at hSy); (try obtain ⟨s0, s1⟩ := hSy); go_simp <;> with_reducible rfl)
          try simp only [Act.put, List.setIfInBounds_toArray, List.set_cons_zero, List.set_cons_succ]
          refine lat_take 5 (v := ?_) rfl (by kernel_rfl) (by kernel_rfl) (by kernel_rfl) (by kernel_rfl) (fun _ _ _ h => h) (by rfl) ?_ (by assumption) ?_
          rotate_left
          · (intro y hSy; (try dsimp only at hSy); (try obtain ⟨s0, s1⟩ := hSy); go_simp <;> with_reducible rfl)
          try simp only [Act.put, List.setIfInBounds_toArray, List.set_cons_zero, List.set_cons_succ]
          refine lat_take 6 (v := ?_) rfl (by kernel_rfl) (by kernel_rfl) (by kernel_rfl) (by kernel_rfl) (fun _ _ _ h => h) (by rfl) ?_ (by assumption) ?_
          rotate_left
          · (intro y hSy; (try dsimp only at hSy); (try obtain ⟨s0, s1⟩ := hSy); go_simp <;> with_reducible rfl)
          try simp only [Act.put, List.setIfInBounds_toArray, List.set_cons_zero, List.set_cons_succ]
          refine lat_take 7 (v := ?_) rfl (by kernel_rfl) (by kernel_rfl) (by kernel_rfl) (by kernel_rfl) (fun _ _ _ h => h) (by rfl) ?_ (by assumption) ?_
          rotate_left
          · (intro y hSy; (try dsimp only at hSy); (try obtain ⟨s0, s1⟩ := hSy); go_simp <;> with_reducible rfl)
          try simp only [Act.put, List.setIfInBounds_toArray, List.set_cons_zero, List.set_cons_succ]
          refine lat_one 8 rfl (by kernel_rfl) (by decide) (by rfl) (fun K hK => ?_)
          go_simp
          refine Calls.mono HC.out ?_
          rintro e w5 ⟨a5, k5, c5, rfl, hk5, hq5⟩
          have HQ5 : Hid (PnS w0 P (w5.setCell ⟨P, 0, none⟩ (.slice a5 k5 c5)) (oa (oa (oa (oa (some Lk) (some [3])) (eText k)) (eText v)) (some (lay 8 (un t)))) (((((N + 2 + kk * 201000) + 1) + 2 + k.size) + 2 + v.size) + 8)) := hq5
          have HK5 : Hid (KeepT P (wr.alloc (.cells #[.bool true, .string k, .bool true, .string v, .int .i64 t, .int .i64 o] 87)) w5) := (HZK.out.trans (KeepT.of_below (below_drew _))).trans (hk5 P)
          obtain ⟨d0, d1, g0, g1⟩ := pen_cells (pen_box HX3.out hk5)
          have HBX : Hid (w5.heap[wr.heap.size]? = some (.cells #[.bool true, .string k, .bool true, .string v, .int .i64 t, .int .i64 o] 87 (0, 0))) := HRX.out _ HK5.out
          have r0 := (box_at HBX.out 0).1
          have r1 := (box_at HBX.out 1).1
          have r2 := (box_at HBX.out 2).1
          have r3 := (box_at HBX.out 3).1
          have r4 := (box_at HBX.out 4).1
          have r5 := (box_at HBX.out 5).1
          simp only [List.getElem?_toArray, List.getElem?_cons_zero, List.getElem?_cons_succ] at r0 r1 r2 r3 r4 r5
          have hS5 : w5.cell? ⟨P, 0, none⟩ = some (.slice a3 k3 c3) ∧ w5.cell? ⟨wr.heap.size, 4, none⟩ = some (.int .i64 t) := ⟨d0, r4⟩
          clear hq5 hk5
          try dsimp only
          refine hK.out _ _ hS5 (fun hH2 => ?_)
          clear hK
          try simp only [Act.put, List.setIfInBounds_toArray, List.set_cons_zero, List.set_cons_succ]
          refine lat_take 9 (v := ?_) rfl (by kernel_rfl) (by kernel_rfl) (by kernel_rfl) (by kernel_rfl) (fun _ _ _ h => h) (by rfl) ?_ (by assumption) ?_
          rotate_left
          · (intro y hSy; (try dsimp only at hSy); (try obtain ⟨s0, s1⟩ := hSy); go_simp <;> with_reducible rfl)
          try simp only [Act.put, List.setIfInBounds_toArray, List.set_cons_zero, List.set_cons_succ]
          refine lat_take 10 (v := ?_) rfl (by kernel_rfl) (by kernel_rfl) (by kernel_rfl) (by kernel_rfl) (fun _ _ _ h => h) (by rfl) ?_ (by assumption) ?_
          rotate_left
          · (intro y hSy; (try dsimp only at hSy); (try obtain ⟨s0, s1⟩ := hSy); go_simp <;> with_reducible rfl)
          try simp only [Act.put, List.setIfInBounds_toArray, List.set_cons_zero, List.set_cons_succ]
          refine lat_last 11 rfl (by kernel_rfl) (by decide) (by kernel_rfl) (by rfl) (fun K hK => ?_)
          go_simp
          try dsimp only
          refine hK.out _ _ ?_
          clear hK
          try simp only [Act.put, List.setIfInBounds_toArray, List.set_cons_zero, List.set_cons_succ]
          go_wp2
          all_goals first
            | exact ⟨⟨kk + 1, by omega, by go_num, by rw [HNX.out, rec_bad (okR_no (by first | exact .inl (by simpa using (show (o != 0) = true by assumption)) | exact .inr (.inl ⟨rfl, size_some (by assumption)⟩) | exact .inr (.inr ⟨rfl, size_some (by assumption)⟩)))]; exact (PnS.setBad HQ5.out).1.mono (by omega), HYK.out.trans (HK5.out.trans ((KeepT.setCell _ _ _ _).trans (KeepT.setCell _ _ _ _)))⟩, by simp [iof]; omega⟩
            | exact ⟨⟨kk + 1, by omega, by go_num, by rw [HNX.out, ← HGD.out (okR_yes (by simpa using (show (o != 0) = false by assumption)) (by first | exact .inl rfl | exact .inr (size_none (by assumption))) (by first | exact .inl rfl | exact .inr (size_none (by assumption))))]; exact HQ5.out.mono (by omega), HYK.out.trans (HK5.out.trans (KeepT.setCell _ _ _ _))⟩, by simp [iof]; omega⟩
    · have e1 : rs.take kk = rs := List.take_of_length_le (by omega)
      have hz : Hid _ := HSK.out
      go_wp2
      go_end0
      rw [e1] at HSK
      exact ⟨rfl, by rw [HSK.out]; exact HP.out.mono (by omega), HKT.out⟩
end Go.Proofs.YtaooidckmepdeaaDoor
