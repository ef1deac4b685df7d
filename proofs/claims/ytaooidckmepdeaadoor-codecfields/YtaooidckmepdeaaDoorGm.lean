/- Sq Pw in one text (wip/tools/merge20.py). -/
import Derived.Test.YtaooidckmepdeaaDoorGi
import Derived.Laws.StructEq
namespace Go.Proofs.YtaooidckmepdeaaDoor
set_option linter.unusedSimpArgs false
set_option linter.unusedVariables false
open Go.RowKit
/-- Two boxes, the first that are new. -/
structure Bx2 (w : World) (t : TypeId) (cs ds : Array Value) (x : World) : Prop where
  a : x.heap[w.heap.size]? = some (.cells cs t (0, 0))
  b : x.heap[w.heap.size + 1]? = some (.cells ds t (0, 0))
  bel : Below w.heap.size w x
theorem Bx2.new (w : World) (t : TypeId) (cs ds : Array Value) : Bx2 w t cs ds ((w.alloc (.cells cs t)).alloc (.cells ds t)) := by
  have b1 : Below w.heap.size w (w.alloc (.cells cs t)) := below_box _
  have b2 : Below (w.alloc (.cells cs t)).heap.size (w.alloc (.cells cs t)) ((w.alloc (.cells cs t)).alloc (.cells ds t)) := below_box _
  refine ⟨?_, ?_, b1.trans (b2.mono (by simp))⟩
  · rw [b2.block _ (by simp)]; exact heap_alloc_new w _
  · have := heap_alloc_new (w.alloc (.cells cs t)) (.cells ds t)
    simpa using this
/-- The same in all fields. -/
def SQ (k i : Int) (b : Bd) (c : Bool) (k' i' : Int) (b' : Bd) (c' : Bool) : Prop :=
  k = k' ∧ i = i' ∧ (b 0).t = (b' 0).t ∧ (b 1).t = (b' 1).t ∧ (b 2).n = (b' 2).n ∧ (b 3).n = (b' 3).n ∧ (b 4).n = (b' 4).n ∧ (b 5).n = (b' 5).n ∧ (b 6).n = (b' 6).n ∧ c = c' ∧ (b 8).n = (b' 8).n ∧ (b 9).n = (b' 9).n ∧ (b 10).n = (b' 10).n ∧ (b 12).n = (b' 12).n ∧ (b 13).n = (b' 13).n ∧ (b 14).n = (b' 14).n ∧ (b 11).rs = (b' 11).rs
def SameP (S : Prop) (w : World) (e : Ending) (w' : World) : Prop := (∃ r : Bool, e = .returned (.bool r) ∧ (r = true ↔ S)) ∧ Below w.heap.size w w'
theorem SameP.no {S : Prop} {w w' : World} (h : ¬ S) (hb : Below w.heap.size w w') : SameP S w (.returned (.bool false)) w' := ⟨⟨false, rfl, by simp [h]⟩, hb⟩
theorem SameP.yes {S : Prop} {w w' : World} (h : S) (hb : Below w.heap.size w w') : SameP S w (.returned (.bool true)) w' := ⟨⟨true, rfl, by simp [h]⟩, hb⟩
theorem eq_getD {rs rs' : List Rc} (hl : rs.length = rs'.length) (h : ∀ j, j < rs.length → rs.getD j rz = rs'.getD j rz) : rs = rs' := by
  apply List.ext_getElem hl
  intro j h1 h2
  have := h j h1
  rwa [List.getD_eq_getElem?_getD, List.getD_eq_getElem?_getD, List.getElem?_eq_getElem h1, List.getElem?_eq_getElem h2] at this
theorem toList_inj {a b : ByteArray} (h : a.toList = b.toList) : a = b := by
  rw [ByteArray.toList_eq, ByteArray.toList_eq] at h
  obtain ⟨⟨x⟩⟩ := a
  obtain ⟨⟨y⟩⟩ := b
  simpa using h
theorem rec_ne {h1 h2 v1 v2 : Bool} {k1 k2 x1 x2 : ByteArray} {t1 t2 o1 o2 : Int} (h : ¬ (⟨h1, k1, v1, x1, t1, o1⟩ : Rc) = ⟨h2, k2, v2, x2, t2, o2⟩) :
    ¬ h1 = h2 ∨ (h1 = h2 ∧ ¬ k1 = k2) ∨ (h1 = h2 ∧ k1 = k2 ∧ ¬ v1 = v2) ∨ (h1 = h2 ∧ k1 = k2 ∧ v1 = v2 ∧ ¬ x1 = x2) ∨ (h1 = h2 ∧ k1 = k2 ∧ v1 = v2 ∧ x1 = x2 ∧ ¬ t1 = t2) ∨ (h1 = h2 ∧ k1 = k2 ∧ v1 = v2 ∧ x1 = x2 ∧ t1 = t2 ∧ ¬ o1 = o2) := by
  by_cases e0 : h1 = h2
  · by_cases e1 : k1 = k2
    · by_cases e2 : v1 = v2
      · by_cases e3 : x1 = x2
        · by_cases e4 : t1 = t2
          · by_cases e5 : o1 = o2
            · exact absurd (by rw [e0, e1, e2, e3, e4, e5]) h
            · exact .inr (.inr (.inr (.inr (.inr ⟨e0, e1, e2, e3, e4, e5⟩))))
          · exact .inr (.inr (.inr (.inr (.inl ⟨e0, e1, e2, e3, e4⟩))))
        · exact .inr (.inr (.inr (.inl ⟨e0, e1, e2, e3⟩)))
      · exact .inr (.inr (.inl ⟨e0, e1, e2⟩))
    · exact .inr (.inl ⟨e0, e1⟩)
  · exact .inl e0
set_option maxHeartbeats 4000000 in
set_option maxRecDepth 100000 in
theorem sameQ_any (k i k' i' : Int) (b b' : Bd) (c c' : Bool) (ra ra' : Option Addr) (rc rc' : Nat) (w : World) (hr : RRow w ra (b 11).rs) (hr' : RRow w ra' (b' 11).rs) (hl : (b 11).rs.length ≤ maxLen) :
    Calls Tryd.prog 16 #[.agg (rqc k i b c ra rc), .agg (rqc k' i' b' c' ra' rc')] w (SameP (SQ k i b c k' i' b' c') w) := by
  have HB : Hid (Bx2 w 26 (rqc k i b c ra rc) (rqc k' i' b' c' ra' rc') ((w.alloc (.cells (rqc k i b c ra rc) 26)).alloc (.cells (rqc k' i' b' c' ra' rc') 26))) := Bx2.new _ _ _ _
  obtain ⟨c0, c1, c2, c3, c4, c5, c6, c7, c8, c9, c10, c11, c12, c13, c14, c15, c16, c17⟩ := rq_box HB.out.a
  obtain ⟨d0, d1, d2, d3, d4, d5, d6, d7, d8, d9, d10, d11, d12, d13, d14, d15, d16, d17⟩ := rq_box HB.out.b
  obtain ⟨S, HS⟩ : ∃ S : Prop, Hid (S = SQ k i b c k' i' b' c') := ⟨_, rfl⟩
  rw [← HS.out]
  have HR : Hid (RRow ((w.alloc (.cells (rqc k i b c ra rc) 26)).alloc (.cells (rqc k' i' b' c' ra' rc') 26)) ra (b 11).rs) := hr.below HB.out.bel
  have HR' : Hid (RRow ((w.alloc (.cells (rqc k i b c ra rc) 26)).alloc (.cells (rqc k' i' b' c' ra' rc') 26)) ra' (b' 11).rs) := hr'.below HB.out.bel
  unfold maxLen at hl
  unfold SQ at HS
  clear hr hr'
  generalize (rqc k i b c ra rc) = cs at *
  generalize (rqc k' i' b' c' ra' rc') = ds at *
  generalize (b 11).rs = rs at *
  generalize (b' 11).rs = rs' at *
  generalize (b 0).t = x0 at *
  generalize (b 1).t = x1 at *
  generalize (b 2).n = x2 at *
  generalize (b 3).n = x3 at *
  generalize (b 4).n = x4 at *
  generalize (b 5).n = x5 at *
  generalize (b 6).n = x6 at *
  generalize (b 8).n = x8 at *
  generalize (b 9).n = x9 at *
  generalize (b 10).n = x10 at *
  generalize (b 12).n = x12 at *
  generalize (b 13).n = x13 at *
  generalize (b 14).n = x14 at *
  generalize (b' 0).t = y0 at *
  generalize (b' 1).t = y1 at *
  generalize (b' 2).n = y2 at *
  generalize (b' 3).n = y3 at *
  generalize (b' 4).n = y4 at *
  generalize (b' 5).n = y5 at *
  generalize (b' 6).n = y6 at *
  generalize (b' 8).n = y8 at *
  generalize (b' 9).n = y9 at *
  generalize (b' 10).n = y10 at *
  generalize (b' 12).n = y12 at *
  generalize (b' 13).n = y13 at *
  generalize (b' 14).n = y14 at *
  go_enter Tryd.func16, Tryd.ntmps16
  simp only [List.append]
  go_wp2
  all_goals (try (go_ret; exact SameP.no (fun q => by
    rw [HS.out] at q
    obtain ⟨q0, q1, q2, q3, q4, q5, q6, q7, q8, q9, q10, q11, q12, q13, q14, q15, q16⟩ := q
    first
    | contradiction
    | exact absurd (congrArg ByteArray.toList q2) (by assumption)
    | exact absurd (congrArg ByteArray.toList q3) (by assumption)
    | (have hz : ((rs.length : Int) != (rs'.length : Int)) = true := by assumption
       rw [q16] at hz; simp at hz)) HB.out.bel))
  have hlen0 : ((rs.length : Int) != (rs'.length : Int)) = false := by assumption
  have HL : Hid (rs.length = rs'.length) := by show _ = _; simp at hlen0; omega
  have HSX : Hid (S ↔ rs = rs') := by
    show _ ↔ _
    rw [HS.out]
    have e0 : x0 = y0 := toList_inj (by assumption)
    have e1 : x1 = y1 := toList_inj (by assumption)
    constructor
    · intro q; exact q.2.2.2.2.2.2.2.2.2.2.2.2.2.2.2.2
    · intro q
      exact ⟨by assumption, by assumption, e0, e1, by assumption, by assumption, by assumption, by assumption, by assumption, by assumption, by assumption, by assumption, by assumption, by assumption, by assumption, by assumption, q⟩
  clear hlen0 HS c0 c1 c2 c3 c4 c5 c6 c7 c8 c9 c10 c11 c13 c14 c15 c16 d0 d1 d2 d3 d4 d5 d6 d7 d8 d9 d10 d11 d13 d14 d15 d16
  have HBB : Hid (Below w.heap.size w ((w.alloc (.cells cs 26)).alloc (.cells ds 26))) := HB.out.bel
  clear HB
  generalize ((w.alloc (.cells cs 26)).alloc (.cells ds 26)) = y at *
  go_loopw [5] (fun iv wr => ∃ kk n : Nat, kk ≤ rs.length ∧ iv = .int .i64 kk ∧ wr = y.drewN n ∧ ∀ j, j < kk → rs.getD j rz = rs'.getD j rz) (fun iv _ => rs.length - (iof iv).toNat)
  case atStart => exact ⟨0, 0, by omega, rfl, rfl, fun j hj => by omega⟩
  case round =>
    obtain ⟨kk, n, hk, rfl, rfl, hpre⟩ := hrel
    by_cases hlt : kk < rs.length
    · have hltI : (kk : Int) < (rs.length : Int) := by omega
      have hlt' : kk < rs'.length := by rw [← HL.out]; exact hlt
      have hltI' : (kk : Int) < (rs'.length : Int) := by omega
      obtain ⟨b1, o1, rfl, y0, y1, y2, y3, y4, y5⟩ := HR.out kk hlt
      obtain ⟨b2, o2, rfl, z0, z1, z2, z3, z4, z5⟩ := HR'.out kk hlt'
      clear HR HR'
      by_cases hre : rs.getD kk rz = rs'.getD kk rz
      · have HP : Hid (∀ j, j < kk + 1 → rs.getD j rz = rs'.getD j rz) := fun j hj => by
          by_cases e : j = kk
          · subst e; exact hre
          · exact hpre j (by omega)
        rw [← hre] at z0 z1 z2 z3 z4 z5
        clear hre hpre
        generalize rs.getD kk rz = r at *
        obtain ⟨hk', kk', hv, v, t, o⟩ := r
        simp only at y0 y1 y2 y3 y4 y5 z0 z1 z2 z3 z4 z5
        go_wp2
        go_quiet (fail)
        go_wp2
        exact ⟨⟨kk + 1, n + nq, by omega, by go_num, rfl, HP.out⟩, by simp [iof]; omega⟩
      · have HN : Hid (¬ S) := fun q => hre (by rw [HSX.out.1 q])
        have HNE : Hid (¬ rs.getD kk rz = rs'.getD kk rz) := hre
        clear hre hpre HSX
        generalize rs.getD kk rz = r at *
        generalize rs'.getD kk rz = r' at *
        obtain ⟨hk1, k1, hv1, v1, t1, o1'⟩ := r
        obtain ⟨hk2, k2, hv2, v2, t2, o2'⟩ := r'
        simp only at y0 y1 y2 y3 y4 y5 z0 z1 z2 z3 z4 z5
        have hne : ∀ x : World, (binOp .neq 87 (.agg #[.bool hk1, .string k1, .bool hv1, .string v1, .int .i64 t1, .int .i64 o1']) (.agg #[.bool hk2, .string k2, .bool hv2, .string v2, .int .i64 t2, .int .i64 o2'])).run Tryd.prog x = .ok (.bool true) x := by
          intro x
          rcases rec_ne HNE.out with e | ⟨e0, e⟩ | ⟨e0, e1, e⟩ | ⟨e0, e1, e2, e⟩ | ⟨e0, e1, e2, e3, e⟩ | ⟨e0, e1, e2, e3, e4, e⟩
          · have f : (hk1 == hk2) = false := by simpa using e
            go_simp
          · subst e0
            have f : (k1.toList == k2.toList) = false := by simpa using fun q => e (toList_inj q)
            go_simp
          · subst e0 e1
            have f : (hv1 == hv2) = false := by simpa using e
            go_simp
          · subst e0 e1 e2
            have f : (v1.toList == v2.toList) = false := by simpa using fun q => e (toList_inj q)
            go_simp
          · subst e0 e1 e2 e3
            have f : (t1 == t2) = false := by simpa using e
            go_simp
          · subst e0 e1 e2 e3 e4
            have f : (o1' == o2') = false := by simpa using e
            go_simp
        go_wp2
        go_quiet (fail)
        go_wp2
        go_ret
        exact SameP.no HN.out (below_drewN (below_drewN HBB.out _) _)
    · obtain rfl : kk = rs.length := by omega
      go_wp2
      go_ret
      exact SameP.yes (HSX.out.2 (eq_getD HL.out hpre)) (below_drewN HBB.out n)
end Go.Proofs.YtaooidckmepdeaaDoor
namespace Go.Proofs.YtaooidckmepdeaaDoor
set_option linter.unusedSimpArgs false
set_option linter.unusedVariables false
open Go.RowKit
theorem eFs_mem {b : Bd} : ∀ {r : List Nat} {L : List Nat} {f : Nat}, eFs b r = some L → f ∈ r → ∃ A, eK (kd f) (b f) = some A
  | g :: r, L, f, h, hf => by
    obtain ⟨A, C, h1, h2, _⟩ := oa_some h
    rcases List.mem_cons.1 hf with rfl | q
    · exact ⟨A, h1⟩
    · exact eFs_mem h2 q
theorem eL_mem {α : Type} {en : α → Ls} : ∀ {l : List α} {L : List Nat} {x : α}, eL en l = some L → x ∈ l → ∃ A, en x = some A
  | y :: r, L, x, h, hx => by
    obtain ⟨A, C, h1, h2, _⟩ := oa_some h
    rcases List.mem_cons.1 hx with rfl | q
    · exact ⟨A, h1⟩
    · exact eL_mem h2 q
theorem eRow_fit {α : Type} {en : α → Ls} {l : List α} {L : List Nat} (h : eRow en l = some L) : l.length ≤ 65535 ∧ ∀ x, x ∈ l → ∃ A, en x = some A := by
  unfold eRow at h
  split at h
  · rename_i hl
    obtain ⟨A, C, h1, h2, _⟩ := oa_some h
    exact ⟨hl, fun x hx => eL_mem h2 hx⟩
  · cases h
theorem eText_fit {s : ByteArray} {L : List Nat} (h : eText s = some L) : s.size ≤ 65535 := by
  unfold eText at h
  split at h
  · assumption
  · cases h
theorem eIf_fit {c : Bool} {s : ByteArray} {L : List Nat} (h : eIf c s = some L) (h0 : (c || decide (s.size = 0)) = true) : s.size ≤ 65535 := by
  unfold eIf at h
  cases c with
  | true => exact eText_fit (by simpa using h)
  | false => simp only [Bool.false_or, decide_eq_true_eq] at h0; omega
theorem eRec_fit {r : Rc} {L : List Nat} (h : eRec r = some L) : r.k.size ≤ 65535 ∧ r.v.size ≤ 65535 := by
  unfold eRec at h
  split at h
  · rename_i hok
    simp only [okR, Bool.and_eq_true] at hok
    obtain ⟨A, C, _, h2, _⟩ := oa_some h
    obtain ⟨A2, C2, h3, h4, _⟩ := oa_some h2
    obtain ⟨A3, C3, h5, _, _⟩ := oa_some h4
    exact ⟨eIf_fit h3 hok.1.2, eIf_fit h5 hok.2⟩
  · cases h
/-- Rows and texts that are not too long. -/
structure Fit (b : Bd) : Prop where
  t : ∀ f, (b f).t.size ≤ 65535
  r : (b 11).rs.length ≤ 65535
  re : ∀ x, x ∈ (b 11).rs → x.k.size ≤ 65535 ∧ x.v.size ≤ 65535
  n : (b 17).nm.length ≤ 65535
  ne : ∀ x, x ∈ (b 17).nm → x.size ≤ 65535
  c : (b 18).ct.length ≤ 65535
  s : (b 19).bs.length ≤ 65535
theorem fit_of {b : Bd} {r : List Nat} {L : List Nat} (hb : VB b) (hm : moreB b r = false) (he : eFs b r = some L) : Fit b := by
  have hz := more_no hb hm
  have z0 : (⟨#[]⟩ : ByteArray).size ≤ 65535 := Nat.zero_le _
  have key : ∀ f, b f = fz ∨ ∃ A, eK (kd f) (b f) = some A := fun f => by
    by_cases hf : f ∈ r
    · exact .inr (eFs_mem he hf)
    · exact .inl (hz f hf)
  have tx : ∀ f, kd f = 2 → (b f).t.size ≤ 65535 := fun f hf => by
    rcases key f with e | ⟨A, e⟩
    · rw [e]; exact z0
    · rw [hf] at e; exact eText_fit (show eText (b f).t = some A from e)
  obtain ⟨_, _, _, _, _, _, pt⟩ := hb.parts
  refine ⟨fun f => ?_, ?_, ?_, ?_, ?_, ?_, ?_⟩
  · by_cases h2 : 2 ≤ f
    · rw [pt f h2]; exact z0
    · exact tx f (by unfold kd; rw [if_pos (by omega)])
  · rcases key 11 with e | ⟨A, e⟩
    · rw [e]; exact Nat.zero_le _
    · exact (eRow_fit (show eRow eRec (b 11).rs = some A from e)).1
  · rcases key 11 with e | ⟨A, e⟩
    · rw [e]; intro x hx; cases hx
    · intro x hx
      obtain ⟨C, hC⟩ := (eRow_fit (show eRow eRec (b 11).rs = some A from e)).2 x hx
      exact eRec_fit hC
  · rcases key 17 with e | ⟨A, e⟩
    · rw [e]; exact Nat.zero_le _
    · exact (eRow_fit (show eRow eText (b 17).nm = some A from e)).1
  · rcases key 17 with e | ⟨A, e⟩
    · rw [e]; intro x hx; cases hx
    · intro x hx
      obtain ⟨C, hC⟩ := (eRow_fit (show eRow eText (b 17).nm = some A from e)).2 x hx
      exact eText_fit hC
  · rcases key 18 with e | ⟨A, e⟩
    · rw [e]; exact Nat.zero_le _
    · exact (eRow_fit (show eRow (fun x => some (eInt x)) (b 18).ct = some A from e)).1
  · rcases key 19 with e | ⟨A, e⟩
    · rw [e]; exact Nat.zero_le _
    · exact (eRow_fit (show eRow eBat (b 19).bs = some A from e)).1
theorem eNat_in {n : Nat} {v : Int} {L : List Nat} (hn : n ≤ 4) (h : eNat n v = some L) : In64 v := by
  unfold eNat at h
  split at h
  · rename_i hv
    have h4 : 256 ^ n ≤ 256 ^ 4 := Nat.pow_le_pow_right (by decide) hn
    have h5 : (256 : Nat) ^ 4 = 4294967296 := by decide
    obtain ⟨q1, q2⟩ := hv
    unfold In64
    omega
  · cases h
theorem rowQ_low {k : Int} {r : List Nat} (h : rowQ k = some r) : ∀ f, 15 ≤ f → f ∉ r := by
  unfold rowQ at h
  repeat' split at h
  all_goals first | (simp only [Option.some.injEq] at h; subst h; intro f hf hm; simp at hm; omega) | (simp only [Option.some.injEq] at h; subst h; intro f hf hm; cases hm) | cases h
theorem rowA_some {k : Int} {r : List Nat} (h : rowA k = some r) : ∀ f, f ≤ 14 → f ≠ 12 → f ∉ r := by
  unfold rowA at h
  repeat' split at h
  all_goals first | (simp only [Option.some.injEq] at h; subst h; intro f hf hg hm; simp at hm; omega) | (simp only [Option.some.injEq] at h; subst h; intro f hf hg hm; cases hm) | cases h
theorem ansRow_low {k c : Int} {r : List Nat} (h : ansRow k c = some r) : ∀ f, f ≤ 14 → f ≠ 12 → f ∉ r := by
  unfold ansRow at h
  split at h
  · split at h
    · cases h
    · exact rowA_some h
  · cases hr : rowA k with
    | none => rw [hr] at h; cases h
    | some q => rw [hr] at h; simp at h; subst h; intro f _ _ hm; cases hm
theorem req_fit {k i : Int} {b : Bd} {L : List Nat} (hb : VB b) (h : reqE k i b = some L) : Fit b ∧ In64 k ∧ In64 i ∧ RqB b ((b 7).n == 1) := by
  unfold reqE msgE at h
  cases hr : rowQ k with
  | none => rw [hr] at h; cases h
  | some r =>
    rw [hr] at h
    simp only at h
    split at h
    · cases h
    · rename_i hm
      simp only [Bool.not_eq_true] at hm
      obtain ⟨A, C, h1, h2, rfl⟩ := oa_some h
      obtain ⟨A1, A2, h3, h4, rfl⟩ := oa_some h1
      obtain ⟨A3, A4, h5, h6, rfl⟩ := oa_some h4
      have z := fun f hf => more_no hb hm f (rowQ_low hr f hf)
      refine ⟨fit_of hb hm h2, eNat_in (by decide) h3, eNat_in (by decide) h5, ⟨hb, ?_, z 15 (by decide), z 16 (by decide), z 17 (by decide), z 18 (by decide), z 19 (by decide)⟩⟩
      have h7 : (b 7).n = 0 ∨ (b 7).n = 1 := (hb.1 7 (by decide)).2
      rcases h7 with e | e <;> rw [e] <;> rfl
theorem res_fit {k i d : Int} {b : Bd} {L : List Nat} (hb : VB b) (h : resE k i d b = some L) : Fit b ∧ In64 k ∧ In64 i ∧ In64 d ∧ ∀ f, f ≤ 14 → f ≠ 12 → b f = fz := by
  unfold resE msgE at h
  cases hr : ansRow k d with
  | none => rw [hr] at h; cases h
  | some r =>
    rw [hr] at h
    simp only at h
    split at h
    · cases h
    · rename_i hm
      simp only [Bool.not_eq_true] at hm
      obtain ⟨A, C, h1, h2, rfl⟩ := oa_some h
      obtain ⟨A1, A2, h3, h4, rfl⟩ := oa_some h1
      obtain ⟨A3, A4, h5, h6, rfl⟩ := oa_some h4
      obtain ⟨A5, A6, h7, h8, rfl⟩ := oa_some h6
      exact ⟨fit_of hb hm h2, eNat_in (by decide) h3, eNat_in (by decide) h5, eNat_in (by decide) h7, fun f h1 h2 => more_no hb hm f (ansRow_low hr f h1 h2)⟩
/-- A request as a value. -/
def QVal (w : World) (cs : Array Value) (k i : Int) (b : Bd) : Prop := ∃ ra rc, cs = rqc k i b ((b 7).n == 1) ra rc ∧ RRow w ra (b 11).rs
theorem QVal.below {w w' : World} {cs : Array Value} {k i : Int} {b : Bd} (h : QVal w cs k i b) (hb : Below w.heap.size w w') : QVal w' cs k i b := by
  obtain ⟨ra, rc, e, r⟩ := h
  exact ⟨ra, rc, e, r.below hb⟩
theorem QVal.size {w : World} {cs : Array Value} {k i : Int} {b : Bd} (h : QVal w cs k i b) : cs.size = 17 := by
  obtain ⟨ra, rc, rfl, r⟩ := h; rfl
theorem QVal.one {w : World} {cs : Array Value} {k i : Int} {b : Bd} (h : QVal w cs k i b) : cs.all (·.oneCell') = true := by
  obtain ⟨ra, rc, rfl, r⟩ := h; simp [rqc, Value.oneCell']
/-- A response as a value. -/
structure SRows (w : World) (b : Bd) (p : Pt) : Prop where
  z : p.ra = none ∧ p.rc = 0
  nm : SRow w p.na (b 17).nm
  ct : IRow w p.ca (b 18).ct
  bs : BRow w p.ba p.bs
  bb : p.bs.map (·.b) = (b 19).bs
theorem SRows.below {w w' : World} {b : Bd} {p : Pt} (h : SRows w b p) (hb : Below w.heap.size w w') : SRows w' b p :=
  ⟨h.z, h.nm.below hb, h.ct.below hb, ⟨h.bs.1.below hb, h.bs.2.below hb⟩, h.bb⟩
def SVal (w : World) (cs : Array Value) (k i d : Int) (b : Bd) : Prop := ∃ p, cs = rsc k i d b p ∧ SRows w b p
theorem SVal.below {w w' : World} {cs : Array Value} {k i d : Int} {b : Bd} (h : SVal w cs k i d b) (hb : Below w.heap.size w w') : SVal w' cs k i d b := by
  obtain ⟨p, e, r⟩ := h
  exact ⟨p, e, r.below hb⟩
theorem SVal.size {w : World} {cs : Array Value} {k i d : Int} {b : Bd} (h : SVal w cs k i d b) : cs.size = 9 := by
  obtain ⟨p, rfl, r⟩ := h; rfl
theorem SVal.one {w : World} {cs : Array Value} {k i d : Int} {b : Bd} (h : SVal w cs k i d b) : cs.all (·.oneCell') = true := by
  obtain ⟨p, rfl, r⟩ := h; simp [rsc, Value.oneCell']
/-- What is parsed, as a value. -/
theorem parseQ_val (w : World) (a : Option Addr) (cap : Nat) (l : List Nat) (ht : Tab w) (hr : BOk w a cap l) {k i : Int} {b : Bd} (h : reqP l = some (k, i, b)) :
    Calls Tryd.prog 15 #[.slice a l.length cap] w fun e w' => (∃ cs, e = .returned (.tuple #[.agg cs, .int .i64 0]) ∧ QVal w' cs k i b) ∧ Below w.heap.size w w' := by
  have q := parseQ_any w a cap l ht hr.row hr.len hr.cap hr.nil hr.big
  rw [h] at q
  refine Calls.mono q ?_
  rintro e w' ⟨hb, _, h2⟩
  obtain ⟨p, X, _, e1, hx⟩ := h2 _ _ _ rfl
  exact ⟨⟨_, e1, p.ra, p.rc, rfl, hx.rs⟩, hb⟩
theorem parseQ_no (w : World) (a : Option Addr) (cap : Nat) (l : List Nat) (ht : Tab w) (hr : BOk w a cap l) (h : reqP l = none) :
    Calls Tryd.prog 15 #[.slice a l.length cap] w fun e w' => e = .returned (.tuple #[.agg z26, .int .i64 13]) ∧ Below w.heap.size w w' := by
  have q := parseQ_any w a cap l ht hr.row hr.len hr.cap hr.nil hr.big
  rw [h] at q
  refine Calls.mono q ?_
  rintro e w' ⟨hb, h1, _⟩
  exact ⟨h1 rfl, hb⟩
theorem parseS_val (w : World) (a : Option Addr) (cap : Nat) (l : List Nat) (ht : Tab w) (hr : BOk w a cap l) {k i d : Int} {b : Bd} (h : resP l = some (k, i, d, b)) :
    Calls Tryd.prog 18 #[.slice a l.length cap] w fun e w' => (∃ cs, e = .returned (.tuple #[.agg cs, .int .i64 0]) ∧ SVal w' cs k i d b) ∧ Below w.heap.size w w' := by
  have q := parseS_any w a cap l ht hr.row hr.len hr.cap hr.nil hr.big
  rw [h] at q
  refine Calls.mono q ?_
  rintro e w' ⟨hb, _, h2⟩
  obtain ⟨p, X, _, e1, hx⟩ := h2 _ _ _ _ rfl
  exact ⟨⟨_, e1, ⟨none, 0, p.na, p.nc, p.ca, p.cc, p.ba, p.bc, p.bs⟩, rfl, ⟨rfl, rfl⟩, hx.nm, hx.ct, hx.bs, hx.bb⟩, hb⟩
theorem parseS_no (w : World) (a : Option Addr) (cap : Nat) (l : List Nat) (ht : Tab w) (hr : BOk w a cap l) (h : resP l = none) :
    Calls Tryd.prog 18 #[.slice a l.length cap] w fun e w' => e = .returned (.tuple #[.agg z40, .int .i64 13]) ∧ Below w.heap.size w w' := by
  have q := parseS_any w a cap l ht hr.row hr.len hr.cap hr.nil hr.big
  rw [h] at q
  refine Calls.mono q ?_
  rintro e w' ⟨hb, h1, _⟩
  exact ⟨h1 rfl, hb⟩
/-- A value that was read is written so. -/
theorem writeQ_val (w : World) (cs : Array Value) (ht : Tab w) {k i : Int} {b : Bd} {L : List Nat} (hq : QVal w cs k i b) (hb : VB b) (h : reqE k i b = some L) :
    Calls Tryd.prog 11 #[.agg cs] w fun e w' => (∃ a c, e = .returned (.tuple #[.slice a L.length c, .int .i64 0]) ∧ BOk w' a c L) ∧ Below w.heap.size w w' := by
  obtain ⟨ra, rc, rfl, hr⟩ := hq
  obtain ⟨hf, hk, hi, hB⟩ := req_fit hb h
  have z17 : (b 17).nm = [] := by rw [hB.z17]; rfl
  have z18 : (b 18).ct = [] := by rw [hB.z18]; rfl
  have z19 : (b 19).bs = [] := by rw [hB.z19]; rfl
  have hok : BdOk w b (ptR ra rc) := by
    refine ⟨ht, hr, ?_, ?_, ⟨?_, ?_⟩, ?_, ?_, ?_, ?_, ?_, fun j hj => ?_, ?_, fun f => by have := hf.t f; omega, ?_⟩
    · intro i hi; rw [z17] at hi; cases hi
    · intro i hi; rw [z18] at hi; cases hi
    · intro i hi; cases hi
    · intro i hi; cases hi
    · rw [z19]; rfl
    · have := hf.r; omega
    · rw [z17]; decide
    · rw [z18]; decide
    · exact Nat.zero_le _
    · have hm : (b 11).rs.getD j rz ∈ (b 11).rs := by rw [List.getD_eq_getElem?_getD, List.getElem?_eq_getElem hj]; exact List.getElem_mem hj
      have q := hf.re _ hm
      exact ⟨(hb.1 11 (by decide)).2 _ hm, by omega, by omega⟩
    · intro i hi; rw [z17] at hi; cases hi
    · rw [hB.c7]; exact (bit_in _).1
  have q := request_any k i b _ ra rc w hk hi hB hok
  rw [h] at q
  refine Calls.mono q (fun e w' h => ?_)
  obtain ⟨a, c, e1, r, b⟩ := EncP.some2 h
  exact ⟨⟨a, c, e1, r⟩, b⟩
theorem SRows.ok {w : World} {b : Bd} {p : Pt} (hr : SRows w b p) (ht : Tab w) (hz : ∀ f, f ≤ 14 → f ≠ 12 → b f = fz) (hb : VB b) (h1 : (b 17).nm.length ≤ 100000) (h2 : (b 18).ct.length ≤ 100000) (h3 : (b 19).bs.length ≤ 100000) (h4 : ∀ x, x ∈ (b 17).nm → x.size ≤ 9223372036854775807) : BdOk w b p := by
  have z11 : (b 11).rs = [] := by rw [hz 11 (by decide) (by decide)]; rfl
  obtain ⟨_, _, _, _, _, _, pt⟩ := hb.parts
  refine ⟨ht, ?_, hr.nm, hr.ct, hr.bs, hr.bb, ?_, h1, h2, ?_, ?_, fun j hj => ?_, fun f => ?_, ?_⟩
  · intro i hi; rw [z11] at hi; cases hi
  · rw [z11]; decide
  · have := congrArg List.length hr.bb; rw [List.length_map] at this; omega
  · intro i hi; rw [z11] at hi; cases hi
  · have hm : (b 17).nm.getD j ⟨#[]⟩ ∈ (b 17).nm := by rw [List.getD_eq_getElem?_getD, List.getElem?_eq_getElem hj]; exact List.getElem_mem hj
    exact h4 _ hm
  · by_cases h2 : 2 ≤ f
    · rw [pt f h2]; decide
    · rw [hz f (by omega) (by omega)]; decide
  · rw [hz 7 (by decide) (by decide)]; unfold In64; decide
theorem writeS_val (w : World) (cs : Array Value) (ht : Tab w) {k i d : Int} {b : Bd} {L : List Nat} (hq : SVal w cs k i d b) (hb : VB b) (h : resE k i d b = some L) :
    Calls Tryd.prog 17 #[.agg cs] w fun e w' => (∃ a c, e = .returned (.tuple #[.slice a L.length c, .int .i64 0]) ∧ BOk w' a c L) ∧ Below w.heap.size w w' := by
  obtain ⟨p, rfl, hr⟩ := hq
  obtain ⟨hf, hk, hi, hd, hz⟩ := res_fit hb h
  have q := response_any k i d b p w hk hi hd ⟨hb, hz, hr.z⟩ (hr.ok ht hz hb (by have := hf.n; omega) (by have := hf.c; omega) (by have := hf.s; omega) (fun x hx => by have := hf.ne x hx; omega))
  rw [h] at q
  refine Calls.mono q (fun e w' h => ?_)
  obtain ⟨a, c, e1, r, b⟩ := EncP.some2 h
  exact ⟨⟨a, c, e1, r⟩, b⟩
theorem bytes_yes (x : World) (p q : Option Addr) (k j : Nat) (l : List Nat) (h1 : Row x p l) (h2 : Row x q l) (hl : l.length ≤ 1000000000000) : Calls Tryd.prog 13 #[.slice p l.length k, .slice q l.length j] x fun e w' => e = .returned (.bool true) ∧ Below x.heap.size x w' := by
  have h := bytes_any p k l q j l x h1 h2 (by unfold maxLen; omega) (by unfold maxLen; omega)
  rw [decide_eq_true rfl] at h
  refine Calls.mono h ?_
  rintro e w' ⟨rfl, n, rfl⟩
  exact ⟨rfl, below_drewN (Below.refl _ _) n⟩
end Go.Proofs.YtaooidckmepdeaaDoor
