/- The document's Request, whatever comes in; is a request looked at, and what follows. -/
import Derived.Test.YtaooidckmepdeaaDoorPl
namespace Go.Proofs.YtaooidckmepdeaaDoor
set_option linter.unusedSimpArgs false
set_option linter.unusedVariables false
open Go.RowKit
theorem refReq_any (k i : Int) (b : Bd) (c : Bool) (ra : Option Addr) (rc : Nat) (w : World) (hb : RqB b c) (ht : ∀ g, (b g).t.size ≤ 200000) (hl : (b 11).rs.length ≤ 300) (hr : RRow w ra (b 11).rs) (hrs : ∀ r, r ∈ (b 11).rs → In64 r.t ∧ r.k.size ≤ 100000 ∧ r.v.size ≤ 100000) :
    Calls Tryd.prog 12 #[.agg (rqc k i b c ra rc)] w (EncP (reqE k i b) w) := by
  have no : ∀ {e : Ending} {w' : World}, reqE k i b = none → (e = .returned (.tuple #[.slice none 0 0, .int .i64 1]) ∧ Below w.heap.size w w') → EncP (reqE k i b) w e w' := fun h q => by
    rw [h, q.1]; exact encP_no q.2
  have rn : (k < 1 ∨ 8 < k) → reqE k i b = none := fun h => by
    have : rowQ k = none := by
      unfold rowQ
      rw [if_neg (by omega), if_neg (by omega), if_neg (by omega), if_neg (by omega), if_neg (by omega), if_neg (by omega), if_neg (by omega), if_neg (by omega)]
    unfold reqE msgE
    rw [this]
  have ri : (i < 0 ∨ 4294967295 < i) → reqE k i b = none := fun h => by
    have e4 : eNat 4 i = none := by unfold eNat; rw [if_neg (by omega)]
    unfold reqE msgE
    cases rowQ k with
    | none => rfl
    | some r =>
      simp only [eNs, e4, none_oa, oa_none]
      split <;> rfl
  by_cases h1 : k < 1
  · exact Calls.mono (rq_no0 k i b c ra rc w h1) (fun e w' q => no (rn (.inl h1)) q)
  by_cases h2 : k > 8
  · exact Calls.mono (rq_no1 k i b c ra rc w h1 h2) (fun e w' q => no (rn (.inr h2)) q)
  by_cases h3 : i < 0
  · exact Calls.mono (rq_no2 k i b c ra rc w h1 h2 h3) (fun e w' q => no (ri (.inl h3)) q)
  by_cases h4 : i > 4294967295
  · exact Calls.mono (rq_no3 k i b c ra rc w h1 h2 h3 h4) (fun e w' q => no (ri (.inr h4)) q)
  obtain ⟨kn, rfl⟩ : ∃ kn : Nat, k = (kn : Int) := ⟨k.toNat, by omega⟩
  obtain ⟨im, rfl⟩ : ∃ im : Nat, i = (im : Int) := ⟨i.toNat, by omega⟩
  obtain ⟨r, hrow⟩ : ∃ r, rowQ (kn : Int) = some r := by
    rcases (show kn = 1 ∨ kn = 2 ∨ kn = 3 ∨ kn = 4 ∨ kn = 5 ∨ kn = 6 ∨ kn = 7 ∨ kn = 8 by omega) with rfl | rfl | rfl | rfl | rfl | rfl | rfl | rfl <;> exact ⟨_, rfl⟩
  refine rq_yes kn im b c ra rc w hb ht hl hr hrs h1 h2 h3 h4 r hrow (fun j => oa (some ([kn] ++ lay 4 im)) (eFs b (r.take j))) (fun j => rfl) (!(moreB b r)) (by simp) _ ?_
  show reqE (kn : Int) (im : Int) b = _
  have e1 : eNat 1 (kn : Int) = some [kn] := by
    unfold eNat
    rw [if_pos (by constructor <;> omega), Int.toNat_natCast]
    rw [show lay 1 kn = [kn] from by simp [lay]; omega]
  have e4 : eNat 4 (im : Int) = some (lay 4 im) := by
    unfold eNat
    rw [if_pos (by constructor <;> omega), Int.toNat_natCast]
  unfold reqE msgE
  rw [hrow]
  simp only [List.take_length, eNs, e1, e4]
  cases moreB b r <;> simp [oa]
/-- All texts of records. -/
def tsum : List Rc → Nat
  | [] => 0
  | r :: l => r.k.size + r.v.size + tsum l
theorem tsum_app (a b : List Rc) : tsum (a ++ b) = tsum a + tsum b := by
  induction a with
  | nil => simp [tsum]
  | cons x r ih => simp only [List.cons_append, tsum, ih]; omega
theorem tsum_take (l : List Rc) (j : Nat) (h : j < l.length) : tsum (l.take (j + 1)) = tsum (l.take j) + ((l.getD j rz).k.size + (l.getD j rz).v.size) := by
  rw [List.take_succ_eq_append_getElem h, tsum_app, List.getD_eq_getElem?_getD, List.getElem?_eq_getElem h]
  simp [tsum]
theorem tsum_mem : ∀ {l : List Rc} {r : Rc}, r ∈ l → r.k.size + r.v.size ≤ tsum l
  | x :: l, r, h => by
    rcases List.mem_cons.1 h with rfl | q
    · simp only [tsum]; omega
    · have := tsum_mem q; simp only [tsum]; omega
def IsT (rs : List Rc) (e : Ending) : Prop := ∃ b, e = .returned (.bool b) ∧ (b = true → rs.length ≤ 300 ∧ tsum rs ≤ 20000)
set_option maxRecDepth 100000 in
theorem small2_any (a : Option Addr) (cap : Nat) (rs : List Rc) (w : World) (hr : RRow w a rs) (hl : rs.length ≤ maxLen) (he : ∀ j, j < rs.length → RcIn (rs.getD j rz)) :
    Calls Tryd.prog 21 #[.slice a rs.length cap] w fun e w' => IsT rs e ∧ Below w.heap.size w w' := by
  unfold maxLen at hl
  go_enter Tryd.func21, Tryd.ntmps21
  go_wp2_with fail
  go_loopw [3, 4] (fun n i wr => ∃ (k X : Nat), k ≤ rs.length ∧ Hid (X = rs.length + tsum (rs.take k)) ∧ i = .int .i64 k ∧ n = .int .i64 (X : Int) ∧ Below w.heap.size w wr) (fun _ i _ => rs.length - (intOf i).toNat)
  case atStart => exact ⟨0, rs.length, by omega, (by show _ = _; simp [tsum]), rfl, rfl, Below.refl _ _⟩
  case round =>
    obtain ⟨k, X, hk, HX, rfl, rfl, hb⟩ := hrel
    by_cases hlt : k < rs.length
    · have hltI : (k : Int) < (rs.length : Int) := by omega
      obtain ⟨b, off, rfl, z0, z1, z2, z3, z4, z5⟩ := (hr.below hb) k hlt
      obtain ⟨_, _, q1, q2⟩ := he k hlt
      have HT : Hid _ := tsum_take rs k hlt
      unfold reachBytes at q1 q2
      clear hr he
      by_cases hx : (X : Int) ≤ 20000
      · generalize rs.getD k rz = r at *
        have f1 : IntKind.i64.wrap ((X : Int) + (r.k.size : Int)) = ((X + r.k.size : Nat) : Int) := by rw [IntKind.wrap_i64]; omega
        have f2 : IntKind.i64.wrap (((X + r.k.size : Nat) : Int) + (r.v.size : Int)) = ((X + r.k.size + r.v.size : Nat) : Int) := by rw [IntKind.wrap_i64]; omega
        have HN : Hid (X + r.k.size + r.v.size = rs.length + tsum (rs.take (k + 1))) := by show _ = _; rw [HT.out, HX.out]; omega
        obtain ⟨U1, HU1⟩ : ∃ U1 : Nat, Hid (X + r.k.size = U1) := ⟨_, rfl⟩
        obtain ⟨U2, HU2⟩ : ∃ U2 : Nat, Hid (X + r.k.size + r.v.size = U2) := ⟨_, rfl⟩
        rw [HU2.out] at HN f2
        rw [HU1.out] at f1 f2
        clear HU1 HU2 HT q1 q2
        go_wp2
        go_quiet (fail)
        go_wp2
        exact ⟨⟨k + 1, U2, by omega, HN.out, by go_num, rfl, below_drewN hb _⟩, by simp [intOf]; omega⟩
      · go_wp2_with fail
        go_ret
        exact ⟨⟨false, rfl, fun c => by cases c⟩, hb⟩
    · obtain rfl : k = rs.length := by omega
      clear hr he
      by_cases hx : (X : Int) ≤ 20000
      · by_cases h3 : (rs.length : Int) ≤ 300
        · go_wp2_with fail
          go_ret
          exact ⟨⟨true, rfl, fun _ => ⟨by omega, by have := HX.out; rw [List.take_length] at this; omega⟩⟩, hb⟩
        · go_wp2_with fail
          go_ret
          exact ⟨⟨false, rfl, fun c => by cases c⟩, hb⟩
      · go_wp2_with fail
        go_ret
        exact ⟨⟨false, rfl, fun c => by cases c⟩, hb⟩
/-- What is looked at. -/
structure LookQ (b : Bd) : Prop where
  n : (b 11).rs.length ≤ 300
  s : tsum (b 11).rs ≤ 20000
  t : (b 0).t.size + (b 1).t.size ≤ 140000
def IsQ (b : Bd) (e : Ending) : Prop := ∃ r, e = .returned (.bool r) ∧ (r = true → LookQ b)
set_option maxHeartbeats 800000 in
set_option maxRecDepth 100000 in
theorem in2_any (k i : Int) (b : Bd) (c : Bool) (ra : Option Addr) (rc : Nat) (w : World) (h : ReqIn w k i b c ra rc) :
    Calls Tryd.prog 9 #[.agg (rqc k i b c ra rc)] w fun e w' => IsQ b e ∧ Below w.heap.size w w' := by
  have HB : Hid (BxW w 26 (rqc k i b c ra rc) (w.alloc (.cells (rqc k i b c ra rc) 26))) := BxW.new _ _ _
  have HC : Hid (∀ x, BxW w 26 (rqc k i b c ra rc) x → x.cell? ⟨w.heap.size, 2, none⟩ = some (.string (b 0).t) ∧ x.cell? ⟨w.heap.size, 16, none⟩ = some (.string (b 1).t) ∧ x.cell? ⟨w.heap.size, 12, none⟩ = some (.slice ra (b 11).rs.length rc)) := fun x hx => by
    obtain ⟨c0, c1, c2, c3, c4, c5, c6, c7, c8, c9, c10, c11, c12, c13, c14, c15, c16, c17⟩ := rq_box hx.box
    exact ⟨c2, c16, c12⟩
  have HS : Hid (∀ x, Below w.heap.size w x → Calls Tryd.prog 21 #[.slice ra (b 11).rs.length rc] x fun e w' => IsT (b 11).rs e ∧ Below x.heap.size x w') := fun x hx => small2_any ra rc _ x (h.r.below hx) h.l h.each
  obtain ⟨z2, z16, z12⟩ := HC.out _ HB.out
  have f1 : IntKind.i64.wrap (((b 0).t.size : Int) + ((b 1).t.size : Int)) = ((b 0).t.size : Int) + ((b 1).t.size : Int) := by
    have q0 := h.t 0
    have q1 := h.t 1
    unfold reachBytes at q0 q1
    rw [IntKind.wrap_i64]; omega
  have HL : Hid (((b 11).rs.length ≤ 300 ∧ tsum (b 11).rs ≤ 20000) → (b 0).t.size + (b 1).t.size ≤ 140000 → LookQ b) := fun q1 q2 => ⟨q1.1, q1.2, q2⟩
  clear h
  obtain ⟨LQ, HLQ⟩ : ∃ LQ : Prop, Hid (LQ = LookQ b) := ⟨_, rfl⟩
  have HP : Hid (∀ r : Bool, (r = true → LQ) → IsQ b (.returned (.bool r))) := fun r hr => ⟨r, rfl, fun q => by rw [← HLQ.out]; exact hr q⟩
  rw [← HLQ.out] at HL
  generalize rqc k i b c ra rc = cs at *
  generalize (b 0).t = t0 at *
  generalize (b 1).t = t1 at *
  generalize (b 11).rs = rs at *
  by_cases hs : (t0.size : Int) + (t1.size : Int) ≤ 140000
  all_goals
    go_enter Tryd.func9, Tryd.ntmps9
    go_wp2_with (first
      | (go_at_call 21; refine (HS.out _ HB.out.bel).mono ?_; rintro e w1 ⟨⟨sm, rfl, hsm⟩, hb1⟩; have HB1 : Hid (BxW w 26 cs w1) := BxW.below HB.out hb1; clear z2 z16 z12; obtain ⟨z2, z16, z12⟩ := HC.out _ HB1.out; have HSM : Hid (sm = true → rs.length ≤ 300 ∧ tsum rs ≤ 20000) := hsm; clear hsm hb1 HB; cases sm))
    · go_ret
      exact ⟨HP.out false (fun q => by cases q), HB1.out.bel⟩
    · go_ret
      first
      | exact ⟨HP.out _ (fun _ => HL.out (HSM.out (by trivial)) (by omega)), HB1.out.bel⟩
      | exact ⟨HP.out _ (fun q => absurd (of_decide_eq_true q) (by omega)), HB1.out.bel⟩
theorem LookQ.texts {b : Bd} {c : Bool} (h : LookQ b) (hb : RqB b c) : ∀ g, (b g).t.size ≤ 140000 := fun g => by
  obtain ⟨_, _, _, _, _, _, pt⟩ := hb.v.parts
  have := h.t
  by_cases h2 : 2 ≤ g
  · rw [pt g h2]; exact Nat.zero_le _
  · rcases (show g = 0 ∨ g = 1 by omega) with rfl | rfl <;> omega
theorem LookQ.recs {b : Bd} {c : Bool} (h : LookQ b) (hb : RqB b c) : ∀ r, r ∈ (b 11).rs → In64 r.t ∧ r.k.size ≤ 100000 ∧ r.v.size ≤ 100000 := fun r hr => by
  have := tsum_mem hr
  have := h.s
  exact ⟨(hb.v.1 11 (by decide)).2 r hr, by omega, by omega⟩
end Go.Proofs.YtaooidckmepdeaaDoor
