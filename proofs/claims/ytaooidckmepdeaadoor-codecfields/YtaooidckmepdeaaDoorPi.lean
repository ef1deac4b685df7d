/- The document's pen: a field. -/
import Derived.Test.YtaooidckmepdeaaDoorPh
namespace Go.Proofs.YtaooidckmepdeaaDoor
set_option linter.unusedSimpArgs false
set_option linter.unusedVariables false
open Go.RowKit
set_option maxHeartbeats 1000000 in
set_option maxRecDepth 100000 in
theorem pf_text (w0 w : World) (P : Nat) (st : Ls) (N f : Nat) (k i : Int) (T : Nat → ByteArray) (M : Nat → Int) (c : Bool) (s0 s1 s2 s3 : Value) (hf : f < 2) (hN : N ≤ 700000000000) (hs : (T f).size ≤ 100000000000) (h : PnS w0 P w st N) :
    Calls Tryd.prog 30 #[(.pointer (some ⟨P, 0, none⟩)), .agg #[.int .i64 1, .int .i64 (f : Int)], .agg (gbc k i T M c s0 s1 s2 s3)] w (PP w0 P w (oa st (eText (T f))) (N + 2 + (T f).size)) := by
  have HB : Hid (((w.alloc (.cells #[.int .i64 1, .int .i64 (f : Int)] 82)).alloc (.cells (gbc k i T M c s0 s1 s2 s3) 71)).heap[w.heap.size]? = some (.cells #[.int .i64 1, .int .i64 (f : Int)] 82 (0, 0))) := (two_boxes w _ _ 82 71).1
  have HG : Hid (((w.alloc (.cells #[.int .i64 1, .int .i64 (f : Int)] 82)).alloc (.cells (gbc k i T M c s0 s1 s2 s3) 71)).heap[w.heap.size + 1]? = some (.cells (gbc k i T M c s0 s1 s2 s3) 71 (0, 0))) := (two_boxes w _ _ 82 71).2
  have HBL : Hid (Below w.heap.size w ((w.alloc (.cells #[.int .i64 1, .int .i64 (f : Int)] 82)).alloc (.cells (gbc k i T M c s0 s1 s2 s3) 71))) := (below_box _).trans ((below_box _).mono (by simp))
  have HY : Hid (PnS w0 P ((w.alloc (.cells #[.int .i64 1, .int .i64 (f : Int)] 82)).alloc (.cells (gbc k i T M c s0 s1 s2 s3) 71)) st N) := PnS.below h HBL.out
  have HPW : Hid (P < w.heap.size) := by obtain ⟨v0, l0, hx0, _⟩ := h.ex; exact (Array.getElem?_eq_some_iff.1 hx0).1
  have b0 : ((w.alloc (.cells #[.int .i64 1, .int .i64 (f : Int)] 82)).alloc (.cells (gbc k i T M c s0 s1 s2 s3) 71)).cell? ⟨w.heap.size, 0, none⟩ = some (.int .i64 1) := (box_at HB.out 0).1
  have b1 : ((w.alloc (.cells #[.int .i64 1, .int .i64 (f : Int)] 82)).alloc (.cells (gbc k i T M c s0 s1 s2 s3) 71)).cell? ⟨w.heap.size, 1, none⟩ = some (.int .i64 (f : Int)) := (box_at HB.out 1).1
  have g2 : ((w.alloc (.cells #[.int .i64 1, .int .i64 (f : Int)] 82)).alloc (.cells (gbc k i T M c s0 s1 s2 s3) 71)).cell? ⟨w.heap.size + 1, 2 + f, none⟩ = some (.string (T f)) := by rw [(box_at HG.out (2 + f)).1]; exact gbc_t _ _ _ _ _ _ _ _ _ f hf
  have HC : Hid (Calls Tryd.prog 44 #[(.pointer (some ⟨P, 0, none⟩)), .string (T f)] ((w.alloc (.cells #[.int .i64 1, .int .i64 (f : Int)] 82)).alloc (.cells (gbc k i T M c s0 s1 s2 s3) 71)) (PP w0 P ((w.alloc (.cells #[.int .i64 1, .int .i64 (f : Int)] 82)).alloc (.cells (gbc k i T M c s0 s1 s2 s3) 71)) (oa st (eText (T f))) (N + 2 + (T f).size))) := ptext_any w0 _ P st N (T f) hN hs HY.out
  have hfI : (f : Int) < 2 := by omega
  clear h hs HB HG HY
  generalize T f = u at *
  generalize (gbc k i T M c s0 s1 s2 s3) = GS at *
  go_enter Tryd.func30, Tryd.ntmps30
  go_wp2_with (go_at_call 44; refine Calls.mono HC.out ?_; rintro e w1 ⟨rfl, hq, hk⟩; have HQ : Hid (PnS w0 P w1 (oa st (eText u)) (N + 2 + u.size)) := hq; have HK : Hid (KeepT P w w1) := (KeepT.of_below HBL.out).trans hk; clear hq hk)
  go_end0
  exact ⟨rfl, HQ.out, HK.out⟩
set_option maxHeartbeats 1000000 in
set_option maxRecDepth 100000 in
theorem pf_recs (w0 w : World) (P : Nat) (st : Ls) (N f : Nat) (k i : Int) (T : Nat → ByteArray) (M : Nat → Int) (c : Bool) (s0 s1 s2 s3 : Value) (ra : Option Addr) (rc : Nat) (rs : List Rc) (hs0 : s0 = .slice ra rs.length rc) (hN : N ≤ 100000000000) (hl : rs.length ≤ 300) (hr : RRow w0 ra rs) (hrs : ∀ r, r ∈ rs → In64 r.t ∧ r.k.size ≤ 100000 ∧ r.v.size ≤ 100000) (h : PnS w0 P w st N) :
    Calls Tryd.prog 30 #[(.pointer (some ⟨P, 0, none⟩)), .agg #[.int .i64 4, .int .i64 (f : Int)], .agg (gbc k i T M c s0 s1 s2 s3)] w (PP w0 P w (oa st (eRow eRec rs)) (N + 2 + 60300000)) := by
  have HB : Hid (((w.alloc (.cells #[.int .i64 4, .int .i64 (f : Int)] 82)).alloc (.cells (gbc k i T M c s0 s1 s2 s3) 71)).heap[w.heap.size]? = some (.cells #[.int .i64 4, .int .i64 (f : Int)] 82 (0, 0))) := (two_boxes w _ _ 82 71).1
  have HG : Hid (((w.alloc (.cells #[.int .i64 4, .int .i64 (f : Int)] 82)).alloc (.cells (gbc k i T M c s0 s1 s2 s3) 71)).heap[w.heap.size + 1]? = some (.cells (gbc k i T M c s0 s1 s2 s3) 71 (0, 0))) := (two_boxes w _ _ 82 71).2
  have HBL : Hid (Below w.heap.size w ((w.alloc (.cells #[.int .i64 4, .int .i64 (f : Int)] 82)).alloc (.cells (gbc k i T M c s0 s1 s2 s3) 71))) := (below_box _).trans ((below_box _).mono (by simp))
  have HY : Hid (PnS w0 P ((w.alloc (.cells #[.int .i64 4, .int .i64 (f : Int)] 82)).alloc (.cells (gbc k i T M c s0 s1 s2 s3) 71)) st N) := PnS.below h HBL.out
  have HPW : Hid (P < w.heap.size) := by obtain ⟨v0, l0, hx0, _⟩ := h.ex; exact (Array.getElem?_eq_some_iff.1 hx0).1
  have b0 : ((w.alloc (.cells #[.int .i64 4, .int .i64 (f : Int)] 82)).alloc (.cells (gbc k i T M c s0 s1 s2 s3) 71)).cell? ⟨w.heap.size, 0, none⟩ = some (.int .i64 4) := (box_at HB.out 0).1
  have b1 : ((w.alloc (.cells #[.int .i64 4, .int .i64 (f : Int)] 82)).alloc (.cells (gbc k i T M c s0 s1 s2 s3) 71)).cell? ⟨w.heap.size, 1, none⟩ = some (.int .i64 (f : Int)) := (box_at HB.out 1).1
  subst hs0
  have g25 : ((w.alloc (.cells #[.int .i64 4, .int .i64 (f : Int)] 82)).alloc (.cells (gbc k i T M c (.slice ra rs.length rc) s1 s2 s3) 71)).cell? ⟨w.heap.size + 1, 25, none⟩ = some (.slice ra rs.length rc) := by rw [(box_at HG.out 25).1]; exact (gbc_r ..).2.1
  have HC : Hid (Calls Tryd.prog 45 #[(.pointer (some ⟨P, 0, none⟩)), .slice ra rs.length rc] ((w.alloc (.cells #[.int .i64 4, .int .i64 (f : Int)] 82)).alloc (.cells (gbc k i T M c (.slice ra rs.length rc) s1 s2 s3) 71)) (PP w0 P ((w.alloc (.cells #[.int .i64 4, .int .i64 (f : Int)] 82)).alloc (.cells (gbc k i T M c (.slice ra rs.length rc) s1 s2 s3) 71)) (oa st (eRow eRec rs)) (N + 2 + 60300000))) := precs_any w0 _ P st N ra rc rs hN hl hr hrs HY.out
  clear h HB HG HY hr hrs
  generalize (gbc k i T M c (.slice ra rs.length rc) s1 s2 s3) = GS at *
  go_enter Tryd.func30, Tryd.ntmps30
  go_wp2_with (go_at_call 45; refine Calls.mono HC.out ?_; rintro e w1 ⟨rfl, hq, hk⟩; have HQ : Hid (PnS w0 P w1 (oa st (eRow eRec rs)) (N + 2 + 60300000)) := hq; have HK : Hid (KeepT P w w1) := (KeepT.of_below HBL.out).trans hk; clear hq hk)
  go_end0
  exact ⟨rfl, HQ.out, HK.out⟩
set_option maxHeartbeats 1000000 in
set_option maxRecDepth 100000 in
theorem pf_num (w0 w : World) (P : Nat) (st : Ls) (N f : Nat) (k i : Int) (T : Nat → ByteArray) (M : Nat → Int) (c : Bool) (s0 s1 s2 s3 : Value) (hf : f < 20) (hN : N ≤ 700000000000) (h : PnS w0 P w st N) :
    Calls Tryd.prog 30 #[(.pointer (some ⟨P, 0, none⟩)), .agg #[.int .i64 2, .int .i64 (f : Int)], .agg (gbc k i T M c s0 s1 s2 s3)] w (PP w0 P w (oa st (some (eInt (M f)))) (N + 8)) := by
  have HB : Hid (((w.alloc (.cells #[.int .i64 2, .int .i64 (f : Int)] 82)).alloc (.cells (gbc k i T M c s0 s1 s2 s3) 71)).heap[w.heap.size]? = some (.cells #[.int .i64 2, .int .i64 (f : Int)] 82 (0, 0))) := (two_boxes w _ _ 82 71).1
  have HG : Hid (((w.alloc (.cells #[.int .i64 2, .int .i64 (f : Int)] 82)).alloc (.cells (gbc k i T M c s0 s1 s2 s3) 71)).heap[w.heap.size + 1]? = some (.cells (gbc k i T M c s0 s1 s2 s3) 71 (0, 0))) := (two_boxes w _ _ 82 71).2
  have HBL : Hid (Below w.heap.size w ((w.alloc (.cells #[.int .i64 2, .int .i64 (f : Int)] 82)).alloc (.cells (gbc k i T M c s0 s1 s2 s3) 71))) := (below_box _).trans ((below_box _).mono (by simp))
  have HY : Hid (PnS w0 P ((w.alloc (.cells #[.int .i64 2, .int .i64 (f : Int)] 82)).alloc (.cells (gbc k i T M c s0 s1 s2 s3) 71)) st N) := PnS.below h HBL.out
  have HPW : Hid (P < w.heap.size) := by obtain ⟨v0, l0, hx0, _⟩ := h.ex; exact (Array.getElem?_eq_some_iff.1 hx0).1
  have b0 : ((w.alloc (.cells #[.int .i64 2, .int .i64 (f : Int)] 82)).alloc (.cells (gbc k i T M c s0 s1 s2 s3) 71)).cell? ⟨w.heap.size, 0, none⟩ = some (.int .i64 2) := (box_at HB.out 0).1
  have b1 : ((w.alloc (.cells #[.int .i64 2, .int .i64 (f : Int)] 82)).alloc (.cells (gbc k i T M c s0 s1 s2 s3) 71)).cell? ⟨w.heap.size, 1, none⟩ = some (.int .i64 (f : Int)) := (box_at HB.out 1).1
  have g4 : ((w.alloc (.cells #[.int .i64 2, .int .i64 (f : Int)] 82)).alloc (.cells (gbc k i T M c s0 s1 s2 s3) 71)).cell? ⟨w.heap.size + 1, 4 + f, none⟩ = some (.int .i64 (M f)) := by rw [(box_at HG.out (4 + f)).1]; exact gbc_n _ _ _ _ _ _ _ _ _ f hf
  have hfI : (f : Int) < 20 := by omega
  have HU : Hid (IntKind.u64.wrap (M f) = ((un (M f) : Nat) : Int) ∧ un (M f) ≤ 18446744073709551615) := ⟨u64_un (M f), by have := un_lt (M f); omega⟩
  have eU := HU.out.1
  rw [show eInt (M f) = lay 8 (un (M f)) from rfl]
  have HS82 : Hid (∀ x, (∀ B', KeepT B' ((w.alloc (.cells #[.int .i64 2, .int .i64 (f : Int)] 82)).alloc (.cells (gbc k i T M c s0 s1 s2 s3) 71)).drew x) → x.cell? ⟨w.heap.size, 1, none⟩ = some (.int .i64 (f : Int))) := fun x hx => by
    have q := KeepT.box (hx (w.heap.size + 7)) (show ((w.alloc (.cells #[.int .i64 2, .int .i64 (f : Int)] 82)).alloc (.cells (gbc k i T M c s0 s1 s2 s3) 71)).drew.heap[w.heap.size]? = _ from HB.out) (by omega) (by decide)
    rw [(box_at q 1).1]; rfl
  have HS71 : Hid (∀ x, (∀ B', KeepT B' ((w.alloc (.cells #[.int .i64 2, .int .i64 (f : Int)] 82)).alloc (.cells (gbc k i T M c s0 s1 s2 s3) 71)).drew x) → x.cell? ⟨w.heap.size + 1, 4 + f, none⟩ = some (.int .i64 (M f))) := fun x hx => by
    have q := KeepT.box (hx (w.heap.size + 7)) (show ((w.alloc (.cells #[.int .i64 2, .int .i64 (f : Int)] 82)).alloc (.cells (gbc k i T M c s0 s1 s2 s3) 71)).drew.heap[w.heap.size + 1]? = _ from HG.out) (by omega) (by decide)
    rw [(box_at q (4 + f)).1]; exact gbc_n _ _ _ _ _ _ _ _ _ f hf
  clear h HB HG
  generalize un (M f) = U at *
  generalize M f = m at *
  generalize (gbc k i T M c s0 s1 s2 s3) = GS at *
  go_enter Tryd.func30, Tryd.ntmps30
  go_wp2_with fail
  generalize ((w.alloc (.cells #[.int .i64 2, .int .i64 (f : Int)] 82)).alloc (.cells GS 71)) = z at *
  obtain ⟨a3, k3, c3, hx3, hC⟩ := pen_lay (by omega) (PnS.below HY.out (below_drew _))
  have HC : Hid (Calls Tryd.prog 29 #[.slice a3 k3 c3, .int .i64 8, .int .u64 (U : Int)] z.drew (PL w0 P z.drew (oa st (some (lay 8 U))) (N + 8))) := hC 8 U (by decide) HU.out.2
  have HX3 : Hid (z.drew.heap[P]? = some (.cells #[.slice a3 k3 c3, .bool st.isNone] 79 (0, 0))) := hx3
  obtain ⟨d0, d1, e0, e1⟩ := pen_cells HX3.out
  have hS0 : z.drew.cell? ⟨P, 0, none⟩ = some (.slice a3 k3 c3) ∧ z.drew.cell? ⟨w.heap.size, 1, none⟩ = some (.int .i64 (f : Int)) ∧ z.drew.cell? ⟨w.heap.size + 1, 4 + f, none⟩ = some (.int .i64 m) := ⟨d0, b1, g4⟩
  clear hx3 hC d0 d1 e0 e1
  refine wp_region_lat (fun y : World => y.cell? ⟨P, 0, none⟩ = some (.slice a3 k3 c3) ∧ y.cell? ⟨w.heap.size, 1, none⟩ = some (.int .i64 (f : Int)) ∧ y.cell? ⟨w.heap.size + 1, 4 + f, none⟩ = some (.int .i64 m)) 14 (by kernel_rfl) hS0 (fun hHeld => ?_)
  refine lat_take 0 (v := ?_) rfl (by kernel_rfl) (by kernel_rfl) (by kernel_rfl) (by kernel_rfl) (fun _ _ _ h => h) (by rfl) ?_ (by assumption) ?_
  rotate_left
  · (intro y hSy; (try dsimp only at hSy); (try obtain ⟨q0, q1, q2⟩ := hSy); go_simp <;> with_reducible rfl)
  try simp only [Act.put, List.setIfInBounds_toArray, List.set_cons_zero, List.set_cons_succ]
  refine lat_take 1 (v := ?_) rfl (by kernel_rfl) (by kernel_rfl) (by kernel_rfl) (by kernel_rfl) (fun _ _ _ h => h) (by rfl) ?_ (by assumption) ?_
  rotate_left
  · (intro y hSy; (try dsimp only at hSy); (try obtain ⟨q0, q1, q2⟩ := hSy); go_simp <;> with_reducible rfl)
  try simp only [Act.put, List.setIfInBounds_toArray, List.set_cons_zero, List.set_cons_succ]
  refine lat_take 2 (v := ?_) rfl (by kernel_rfl) (by kernel_rfl) (by kernel_rfl) (by kernel_rfl) (fun _ _ _ h => h) (by rfl) ?_ (by assumption) ?_
  rotate_left
  · (intro y hSy; (try dsimp only at hSy); (try obtain ⟨q0, q1, q2⟩ := hSy); go_simp <;> with_reducible rfl)
  try simp only [Act.put, List.setIfInBounds_toArray, List.set_cons_zero, List.set_cons_succ]
  refine lat_take 3 (v := ?_) rfl (by kernel_rfl) (by kernel_rfl) (by kernel_rfl) (by kernel_rfl) (fun _ _ _ h => h) (by rfl) ?_ (by assumption) ?_
  rotate_left
  · (intro y hSy; (try dsimp only at hSy); (try obtain ⟨q0, q1, q2⟩ := hSy); go_simp <;> with_reducible rfl)
  try simp only [Act.put, List.setIfInBounds_toArray, List.set_cons_zero, List.set_cons_succ]
  refine lat_take 4 (v := ?_) rfl (by kernel_rfl) (by kernel_rfl) (by kernel_rfl) (by kernel_rfl) (fun _ _ _ h => h) (by rfl) ?_ (by assumption) ?_
  rotate_left
  · (intro y hSy; (try dsimp only at hSy); (try obtain ⟨q0, q1, q2⟩ := hSy); go_simp <;> with_reducible rfl)
  try simp only [Act.put, List.setIfInBounds_toArray, List.set_cons_zero, List.set_cons_succ]
  refine lat_take 5 (v := ?_) rfl (by kernel_rfl) (by kernel_rfl) (by kernel_rfl) (by kernel_rfl) (fun _ _ _ h => h) (by rfl) ?_ (by assumption) ?_
  rotate_left
  · (intro y hSy; (try dsimp only at hSy); (try obtain ⟨q0, q1, q2⟩ := hSy); go_simp <;> with_reducible rfl)
  try simp only [Act.put, List.setIfInBounds_toArray, List.set_cons_zero, List.set_cons_succ]
  refine lat_take 6 (v := ?_) rfl (by kernel_rfl) (by kernel_rfl) (by kernel_rfl) (by kernel_rfl) (fun _ _ _ h => h) (by rfl) ?_ (by assumption) ?_
  rotate_left
  · (intro y hSy; (try dsimp only at hSy); (try obtain ⟨q0, q1, q2⟩ := hSy); go_simp <;> with_reducible rfl)
  try simp only [Act.put, List.setIfInBounds_toArray, List.set_cons_zero, List.set_cons_succ]
  refine lat_take 7 (v := ?_) rfl (by kernel_rfl) (by kernel_rfl) (by kernel_rfl) (by kernel_rfl) (fun _ _ _ h => h) (by rfl) ?_ (by assumption) ?_
  rotate_left
  · (intro y hSy; (try dsimp only at hSy); (try obtain ⟨q0, q1, q2⟩ := hSy); go_simp <;> with_reducible rfl)
  try simp only [Act.put, List.setIfInBounds_toArray, List.set_cons_zero, List.set_cons_succ]
  refine lat_take 8 (v := ?_) rfl (by kernel_rfl) (by kernel_rfl) (by kernel_rfl) (by kernel_rfl) (fun _ _ _ h => h) (by rfl) ?_ (by assumption) ?_
  rotate_left
  · (intro y hSy; (try dsimp only at hSy); (try obtain ⟨q0, q1, q2⟩ := hSy); go_simp <;> with_reducible rfl)
  try simp only [Act.put, List.setIfInBounds_toArray, List.set_cons_zero, List.set_cons_succ]
  refine lat_take 9 (v := ?_) rfl (by kernel_rfl) (by kernel_rfl) (by kernel_rfl) (by kernel_rfl) (fun _ _ _ h => h) (by rfl) ?_ (by assumption) ?_
  rotate_left
  · (intro y hSy; (try dsimp only at hSy); (try obtain ⟨q0, q1, q2⟩ := hSy); go_simp <;> with_reducible rfl)
  try simp only [Act.put, List.setIfInBounds_toArray, List.set_cons_zero, List.set_cons_succ]
  refine lat_take 10 (v := ?_) rfl (by kernel_rfl) (by kernel_rfl) (by kernel_rfl) (by kernel_rfl) (fun _ _ _ h => h) (by rfl) ?_ (by assumption) ?_
  rotate_left
  · (intro y hSy; (try dsimp only at hSy); (try obtain ⟨q0, q1, q2⟩ := hSy); go_simp <;> with_reducible rfl)
  try simp only [Act.put, List.setIfInBounds_toArray, List.set_cons_zero, List.set_cons_succ]
  refine lat_one 11 rfl (by kernel_rfl) (by decide) (by rfl) (fun K hK => ?_)
  go_simp
  refine Calls.mono HC.out ?_
  rintro e w5 ⟨a5, k5, c5, rfl, hk5, hq5⟩
  have HQ5 : Hid (PnS w0 P (w5.setCell ⟨P, 0, none⟩ (.slice a5 k5 c5)) (oa st (some (lay 8 U))) (N + 8)) := hq5
  have HK5 : Hid (KeepT P w w5) := ((KeepT.of_below HBL.out).trans (KeepT.of_below (below_drew _))).trans (hk5 P)
  obtain ⟨d0, d1, e0, e1⟩ := pen_cells (pen_box HX3.out hk5)
  have hS5 : w5.cell? ⟨P, 0, none⟩ = some (.slice a3 k3 c3) ∧ w5.cell? ⟨w.heap.size, 1, none⟩ = some (.int .i64 (f : Int)) ∧ w5.cell? ⟨w.heap.size + 1, 4 + f, none⟩ = some (.int .i64 m) := ⟨d0, HS82.out w5 hk5, HS71.out w5 hk5⟩
  clear hq5 hk5
  try dsimp only
  refine hK.out _ _ hS5 (fun hH2 => ?_)
  clear hK
  try simp only [Act.put, List.setIfInBounds_toArray, List.set_cons_zero, List.set_cons_succ]
  refine lat_take 12 (v := ?_) rfl (by kernel_rfl) (by kernel_rfl) (by kernel_rfl) (by kernel_rfl) (fun _ _ _ h => h) (by rfl) ?_ (by assumption) ?_
  rotate_left
  · (intro y hSy; (try dsimp only at hSy); (try obtain ⟨q0, q1, q2⟩ := hSy); go_simp <;> with_reducible rfl)
  try simp only [Act.put, List.setIfInBounds_toArray, List.set_cons_zero, List.set_cons_succ]
  refine lat_take 13 (v := ?_) rfl (by kernel_rfl) (by kernel_rfl) (by kernel_rfl) (by kernel_rfl) (fun _ _ _ h => h) (by rfl) ?_ (by assumption) ?_
  rotate_left
  · (intro y hSy; (try dsimp only at hSy); (try obtain ⟨q0, q1, q2⟩ := hSy); go_simp <;> with_reducible rfl)
  try simp only [Act.put, List.setIfInBounds_toArray, List.set_cons_zero, List.set_cons_succ]
  refine lat_last 14 rfl (by kernel_rfl) (by decide) (by kernel_rfl) (by rfl) (fun K hK => ?_)
  go_simp
  try dsimp only
  refine hK.out _ _ ?_
  clear hK
  try simp only [Act.put, List.setIfInBounds_toArray, List.set_cons_zero, List.set_cons_succ]
  go_wp2_with fail
  go_end0
  exact ⟨rfl, HQ5.out, HK5.out.trans (KeepT.setCell _ _ _ _)⟩
set_option maxHeartbeats 1000000 in
set_option maxRecDepth 100000 in
theorem pf_flagf (w0 w : World) (P : Nat) (st : Ls) (N f : Nat) (k i : Int) (T : Nat → ByteArray) (M : Nat → Int) (s0 s1 s2 s3 : Value) (hN : N ≤ 700000000000) (h : PnS w0 P w st N) :
    Calls Tryd.prog 30 #[(.pointer (some ⟨P, 0, none⟩)), .agg #[.int .i64 3, .int .i64 (f : Int)], .agg (gbc k i T M false s0 s1 s2 s3)] w (PP w0 P w (oa st (some [0])) (N + 1)) := by
  have HB : Hid (((w.alloc (.cells #[.int .i64 3, .int .i64 (f : Int)] 82)).alloc (.cells (gbc k i T M false s0 s1 s2 s3) 71)).heap[w.heap.size]? = some (.cells #[.int .i64 3, .int .i64 (f : Int)] 82 (0, 0))) := (two_boxes w _ _ 82 71).1
  have HG : Hid (((w.alloc (.cells #[.int .i64 3, .int .i64 (f : Int)] 82)).alloc (.cells (gbc k i T M false s0 s1 s2 s3) 71)).heap[w.heap.size + 1]? = some (.cells (gbc k i T M false s0 s1 s2 s3) 71 (0, 0))) := (two_boxes w _ _ 82 71).2
  have HBL : Hid (Below w.heap.size w ((w.alloc (.cells #[.int .i64 3, .int .i64 (f : Int)] 82)).alloc (.cells (gbc k i T M false s0 s1 s2 s3) 71))) := (below_box _).trans ((below_box _).mono (by simp))
  have HY : Hid (PnS w0 P ((w.alloc (.cells #[.int .i64 3, .int .i64 (f : Int)] 82)).alloc (.cells (gbc k i T M false s0 s1 s2 s3) 71)) st N) := PnS.below h HBL.out
  have HPW : Hid (P < w.heap.size) := by obtain ⟨v0, l0, hx0, _⟩ := h.ex; exact (Array.getElem?_eq_some_iff.1 hx0).1
  have b0 : ((w.alloc (.cells #[.int .i64 3, .int .i64 (f : Int)] 82)).alloc (.cells (gbc k i T M false s0 s1 s2 s3) 71)).cell? ⟨w.heap.size, 0, none⟩ = some (.int .i64 3) := (box_at HB.out 0).1
  have b1 : ((w.alloc (.cells #[.int .i64 3, .int .i64 (f : Int)] 82)).alloc (.cells (gbc k i T M false s0 s1 s2 s3) 71)).cell? ⟨w.heap.size, 1, none⟩ = some (.int .i64 (f : Int)) := (box_at HB.out 1).1
  have HYS : Hid (((w.alloc (.cells #[.int .i64 3, .int .i64 (f : Int)] 82)).alloc (.cells (gbc k i T M false s0 s1 s2 s3) 71)).heap.size = w.heap.size + 2) := by show _ = _; simp
  have g24 : ((w.alloc (.cells #[.int .i64 3, .int .i64 (f : Int)] 82)).alloc (.cells (gbc k i T M false s0 s1 s2 s3) 71)).cell? ⟨w.heap.size + 1, 24, none⟩ = some (.bool false) := by rw [(box_at HG.out 24).1]; exact (gbc_r ..).1
  obtain ⟨a1, l1, k1, d0, d1, e0, e1, hx1, ho1, hb1, hl1, hs1⟩ := HY.out.open
  have HO1 : Hid (((w.alloc (.cells #[.int .i64 3, .int .i64 (f : Int)] 82)).alloc (.cells (gbc k i T M false s0 s1 s2 s3) 71)).ownsRow w0.heap.size 5 1 (.slice a1 l1.length k1) l1.length (cv l1)) := ho1
  have HX1 : Hid (((w.alloc (.cells #[.int .i64 3, .int .i64 (f : Int)] 82)).alloc (.cells (gbc k i T M false s0 s1 s2 s3) 71)).heap[P]? = some (.cells #[.slice a1 l1.length k1, .bool st.isNone] 79 (0, 0))) := hx1
  have HS1 : Hid (∀ L, st = some L → l1 = L) := hs1
  have HLO : Hid (w0.heap.size ≤ P) := h.low
  have HLA : Hid ((l1 ++ [0] : List Nat).length = l1.length + 1) := by show _ = _; simp
  clear h HB HG ho1 hx1 hs1
  generalize (gbc k i T M false s0 s1 s2 s3) = GS at *
  go_enter Tryd.func30, Tryd.ntmps30
  go_wp2_with (at_builtin; refine wpList_append_rw (by rfl) _ _ rfl w0.heap.size _ l1 rfl (own_any HO1.out (below_box _)) (by have := HY.out.bel.size; simp at this ⊢; omega) (some ⟨w.heap.size + 2, 0, none⟩) 1 1 [0] rfl rfl (by have q := (head_row ((w.alloc (.cells #[.int .i64 3, .int .i64 (f : Int)] 82)).alloc (.cells GS 71)) 0 (by decide)).1; rw [HYS.out] at q; exact q) (fun c => by cases c) (by simp only [List.length_cons, List.length_nil]; omega) ?_; intro v' w2 ho2 hg2; obtain ⟨a2, c2, rfl⟩ := own_slice ho2; have hKA : ∀ B', KeepT B' ((w.alloc (.cells #[.int .i64 3, .int .i64 (f : Int)] 82)).alloc (.cells GS 71)) w2 := (fun B' => (KeepT.of_below (below_box _)).trans (KeepT.grown (own_any HO1.out (below_box _)) hg2)); have hF := PnS.app (M := N + 1) HX1.out hb1 hl1 HS1.out HLO.out ho2 ((HY.out.bel.trans ((below_box _).mono HY.out.bel.size)).grown hg2 (by have := HY.out.bel.size; simp at this ⊢; omega) (fun k hk => (HO1.out.lt k hk).1)) hKA (lay_byt 1 0) (by simp); rw [HLA.out] at hF; have HF : Hid _ := hF.1; have HFK : Hid (KeepT P w _) := (KeepT.of_below HBL.out).trans hF.2; clear d0 d1 e0 e1; obtain ⟨d0, d1, e0, e1⟩ := pen_cells (pen_box HX1.out hKA); rw [HLA.out]; clear ho2 hg2 hF hKA)
  go_end0
  exact ⟨rfl, HF.out, HFK.out⟩
set_option maxHeartbeats 1000000 in
set_option maxRecDepth 100000 in
theorem pf_flagt (w0 w : World) (P : Nat) (st : Ls) (N f : Nat) (k i : Int) (T : Nat → ByteArray) (M : Nat → Int) (s0 s1 s2 s3 : Value) (hN : N ≤ 700000000000) (h : PnS w0 P w st N) :
    Calls Tryd.prog 30 #[(.pointer (some ⟨P, 0, none⟩)), .agg #[.int .i64 3, .int .i64 (f : Int)], .agg (gbc k i T M true s0 s1 s2 s3)] w (PP w0 P w (oa st (some [1])) (N + 1)) := by
  have HB : Hid (((w.alloc (.cells #[.int .i64 3, .int .i64 (f : Int)] 82)).alloc (.cells (gbc k i T M true s0 s1 s2 s3) 71)).heap[w.heap.size]? = some (.cells #[.int .i64 3, .int .i64 (f : Int)] 82 (0, 0))) := (two_boxes w _ _ 82 71).1
  have HG : Hid (((w.alloc (.cells #[.int .i64 3, .int .i64 (f : Int)] 82)).alloc (.cells (gbc k i T M true s0 s1 s2 s3) 71)).heap[w.heap.size + 1]? = some (.cells (gbc k i T M true s0 s1 s2 s3) 71 (0, 0))) := (two_boxes w _ _ 82 71).2
  have HBL : Hid (Below w.heap.size w ((w.alloc (.cells #[.int .i64 3, .int .i64 (f : Int)] 82)).alloc (.cells (gbc k i T M true s0 s1 s2 s3) 71))) := (below_box _).trans ((below_box _).mono (by simp))
  have HY : Hid (PnS w0 P ((w.alloc (.cells #[.int .i64 3, .int .i64 (f : Int)] 82)).alloc (.cells (gbc k i T M true s0 s1 s2 s3) 71)) st N) := PnS.below h HBL.out
  have HPW : Hid (P < w.heap.size) := by obtain ⟨v0, l0, hx0, _⟩ := h.ex; exact (Array.getElem?_eq_some_iff.1 hx0).1
  have b0 : ((w.alloc (.cells #[.int .i64 3, .int .i64 (f : Int)] 82)).alloc (.cells (gbc k i T M true s0 s1 s2 s3) 71)).cell? ⟨w.heap.size, 0, none⟩ = some (.int .i64 3) := (box_at HB.out 0).1
  have b1 : ((w.alloc (.cells #[.int .i64 3, .int .i64 (f : Int)] 82)).alloc (.cells (gbc k i T M true s0 s1 s2 s3) 71)).cell? ⟨w.heap.size, 1, none⟩ = some (.int .i64 (f : Int)) := (box_at HB.out 1).1
  have HYS : Hid (((w.alloc (.cells #[.int .i64 3, .int .i64 (f : Int)] 82)).alloc (.cells (gbc k i T M true s0 s1 s2 s3) 71)).heap.size = w.heap.size + 2) := by show _ = _; simp
  have g24 : ((w.alloc (.cells #[.int .i64 3, .int .i64 (f : Int)] 82)).alloc (.cells (gbc k i T M true s0 s1 s2 s3) 71)).cell? ⟨w.heap.size + 1, 24, none⟩ = some (.bool true) := by rw [(box_at HG.out 24).1]; exact (gbc_r ..).1
  obtain ⟨a1, l1, k1, d0, d1, e0, e1, hx1, ho1, hb1, hl1, hs1⟩ := HY.out.open
  have HO1 : Hid (((w.alloc (.cells #[.int .i64 3, .int .i64 (f : Int)] 82)).alloc (.cells (gbc k i T M true s0 s1 s2 s3) 71)).ownsRow w0.heap.size 5 1 (.slice a1 l1.length k1) l1.length (cv l1)) := ho1
  have HX1 : Hid (((w.alloc (.cells #[.int .i64 3, .int .i64 (f : Int)] 82)).alloc (.cells (gbc k i T M true s0 s1 s2 s3) 71)).heap[P]? = some (.cells #[.slice a1 l1.length k1, .bool st.isNone] 79 (0, 0))) := hx1
  have HS1 : Hid (∀ L, st = some L → l1 = L) := hs1
  have HLO : Hid (w0.heap.size ≤ P) := h.low
  have HLA : Hid ((l1 ++ [1] : List Nat).length = l1.length + 1) := by show _ = _; simp
  clear h HB HG ho1 hx1 hs1
  generalize (gbc k i T M true s0 s1 s2 s3) = GS at *
  go_enter Tryd.func30, Tryd.ntmps30
  go_wp2_with (at_builtin; refine wpList_append_rw (by rfl) _ _ rfl w0.heap.size _ l1 rfl (own_any HO1.out (below_box _)) (by have := HY.out.bel.size; simp at this ⊢; omega) (some ⟨w.heap.size + 2, 0, none⟩) 1 1 [1] rfl rfl (by have q := (head_row ((w.alloc (.cells #[.int .i64 3, .int .i64 (f : Int)] 82)).alloc (.cells GS 71)) 1 (by decide)).1; rw [HYS.out] at q; exact q) (fun c => by cases c) (by simp only [List.length_cons, List.length_nil]; omega) ?_; intro v' w2 ho2 hg2; obtain ⟨a2, c2, rfl⟩ := own_slice ho2; have hKA : ∀ B', KeepT B' ((w.alloc (.cells #[.int .i64 3, .int .i64 (f : Int)] 82)).alloc (.cells GS 71)) w2 := (fun B' => (KeepT.of_below (below_box _)).trans (KeepT.grown (own_any HO1.out (below_box _)) hg2)); have hF := PnS.app (M := N + 1) HX1.out hb1 hl1 HS1.out HLO.out ho2 ((HY.out.bel.trans ((below_box _).mono HY.out.bel.size)).grown hg2 (by have := HY.out.bel.size; simp at this ⊢; omega) (fun k hk => (HO1.out.lt k hk).1)) hKA (lay_byt 1 1) (by simp); rw [HLA.out] at hF; have HF : Hid _ := hF.1; have HFK : Hid (KeepT P w _) := (KeepT.of_below HBL.out).trans hF.2; clear d0 d1 e0 e1; obtain ⟨d0, d1, e0, e1⟩ := pen_cells (pen_box HX1.out hKA); rw [HLA.out]; clear ho2 hg2 hF hKA)
  go_end0
  exact ⟨rfl, HF.out, HFK.out⟩
end Go.Proofs.YtaooidckmepdeaaDoor
