/- A request in a box, whether it is looked at; bytes that were told. -/
import Derived.Test.YtaooidckmepdeaaDoorAx
import Derived.Test.YtaooidckmepdeaaDoorOq
namespace Go.Proofs.YtaooidckmepdeaaDoor
set_option linter.unusedSimpArgs false
set_option linter.unusedVariables false
open Go.RowKit
theorem EncP.none {w w' : World} {e : Ending} (h : EncP none w e w') : e = .returned (.tuple #[.slice none 0 0, .int .i64 1]) ∧ Below w.heap.size w w' := by
  obtain ⟨⟨v, z, rfl, _, hv⟩, hb⟩ := h
  obtain ⟨rfl, rfl⟩ := hv rfl
  exact ⟨rfl, hb⟩
/-- A row of bytes that may be read. -/
structure BOk (w : World) (a : Option Addr) (c : Nat) (L : List Nat) : Prop where
  row : Row w a L
  len : L.length ≤ c
  cap : c ≤ maxLen
  nil : a = none → c = 0
  big : L.length ≤ 1000000000000
theorem EncP.some2 {L : List Nat} {w w' : World} {e : Ending} (h : EncP (Option.some L) w e w') : ∃ a c, e = .returned (.tuple #[.slice a L.length c, .int .i64 0]) ∧ BOk w' a c L ∧ Below w.heap.size w w' := by
  obtain ⟨⟨v, z, rfl, hv, _⟩, hb⟩ := h
  obtain ⟨rfl, ho, hy, hbig⟩ := hv L rfl
  obtain ⟨a, c, rfl, hr, hn⟩ := owns_sl ho (lt_mem hy)
  have hc : L.length ≤ c ∧ c ≤ maxLen := by
    rcases ho.2 with ⟨e, h0⟩ | ⟨g, cap, cur, e, hB, hg, hle, hm, _⟩
    · injection e with e1 e2 e3; subst e3; exact ⟨by omega, by unfold maxLen; omega⟩
    · injection e with e1 e2 e3; subst e3; exact ⟨by omega, hm⟩
  exact ⟨a, c, rfl, ⟨hr, hc.1, hc.2, hn, hbig⟩, hb⟩
theorem round_big (k : Int) (n : Nat) (w : World) (h1 : -9223372036854775808 ≤ k) (h2 : k ≤ 9223372036854775807) (hn : 1 ≤ n) (hn2 : n ≤ 1000000000000) :
    Calls Tryd.prog 20 #[.int .i64 k, .int .i64 (n : Int)] w fun e w' => e = .returned (.int .i64 (((k % (n : Int)).toNat : Nat) : Int)) ∧ w' = w := by
  have hnI : (1 : Int) ≤ (n : Int) := by omega
  have hnJ : (n : Int) ≤ 1000000000000 := by omega
  have hn0 : ((n : Int) == 0) = false := by simp; omega
  have hne : (n : Int) ≠ 0 := by omega
  have e1 := Int.emod_nonneg k hne
  have e2 := Int.emod_lt_of_pos k (show 0 < (n : Int) by omega)
  have HE : Hid ((((k % (n : Int)).toNat : Nat) : Int) = k % (n : Int)) := by show _ = _; omega
  have HT : Hid (Int.tmod k (n : Int) = if 0 ≤ k ∨ k % (n : Int) = 0 then k % (n : Int) else k % (n : Int) - (n : Int)) := by
    show _ = _
    rw [Int.tmod_eq_emod]
    by_cases h : 0 ≤ k
    · simp [h]
    · by_cases hd : (n : Int) ∣ k
      · simp [hd, Int.emod_eq_zero_of_dvd hd]
      · have : ¬ k % (n : Int) = 0 := fun q => hd (Int.dvd_of_emod_eq_zero q)
        simp [h, hd, this]
  go_enter Tryd.func20, Tryd.ntmps20
  go_wp2
  · have h : k.tmod (n : Int) < 0 := by assumption
    have ht := HT.out
    go_ret
    refine ⟨retI ?_, rfl⟩
    rw [HE.out]
    generalize k.tmod (n : Int) = z at *
    generalize k % (n : Int) = y at *
    unfold wrap64
    split at ht <;> omega
  · have h : 0 ≤ k.tmod (n : Int) := by assumption
    have ht := HT.out
    go_ret
    refine ⟨retI ?_, rfl⟩
    rw [HE.out]
    generalize k.tmod (n : Int) = z at *
    generalize k % (n : Int) = y at *
    split at ht <;> omega
/-- A box of what came in, the first that is new. -/
structure BxW (w : World) (t : TypeId) (cs : Array Value) (x : World) : Prop where
  box : x.heap[w.heap.size]? = some (.cells cs t (0, 0))
  bel : Below w.heap.size w x
theorem BxW.new (w : World) (t : TypeId) (cs : Array Value) : BxW w t cs (w.alloc (.cells cs t)) := ⟨heap_alloc_new w _, below_box _⟩
theorem BxW.below {w x y : World} {t : TypeId} {cs : Array Value} (h : BxW w t cs x) (hb : Below x.heap.size x y) : BxW w t cs y :=
  ⟨(hb.block _ (Array.getElem?_eq_some_iff.1 h.box).1).trans h.box, h.bel.trans (hb.mono h.bel.size)⟩
set_option maxHeartbeats 800000 in
set_option maxRecDepth 100000 in
theorem in_any (k i : Int) (b : Bd) (c : Bool) (ra : Option Addr) (rc : Nat) (w : World) (h : ReqIn w k i b c ra rc) :
    Calls Tryd.prog 9 #[.agg (rqc k i b c ra rc)] w fun e w' => IsB (b 11).rs.length e ∧ Below w.heap.size w w' := by
  have HB : Hid (BxW w 26 (rqc k i b c ra rc) (w.alloc (.cells (rqc k i b c ra rc) 26))) := BxW.new _ _ _
  have HC : Hid (∀ x, BxW w 26 (rqc k i b c ra rc) x → x.cell? ⟨w.heap.size, 2, none⟩ = some (.string (b 0).t) ∧ x.cell? ⟨w.heap.size, 16, none⟩ = some (.string (b 1).t) ∧ x.cell? ⟨w.heap.size, 12, none⟩ = some (.slice ra (b 11).rs.length rc)) := fun x hx => by
    obtain ⟨c0, c1, c2, c3, c4, c5, c6, c7, c8, c9, c10, c11, c12, c13, c14, c15, c16, c17⟩ := rq_box hx.box
    exact ⟨c2, c16, c12⟩
  have HS : Hid (∀ x, Below w.heap.size w x → Calls Tryd.prog 21 #[.slice ra (b 11).rs.length rc] x fun e w' => IsB (b 11).rs.length e ∧ Below x.heap.size x w') := fun x hx => small_any ra rc _ x (h.r.below hx) h.l
  obtain ⟨z2, z16, z12⟩ := HC.out _ HB.out
  clear h
  generalize rqc k i b c ra rc = cs at *
  generalize (b 0).t = t0 at *
  generalize (b 1).t = t1 at *
  generalize (b 11).rs.length = n at *
  go_enter Tryd.func9, Tryd.ntmps9
  go_wp2_with (first
    | (go_at_call 21; refine (HS.out _ HB.out.bel).mono ?_; rintro e w1 ⟨⟨sm, rfl, hsm⟩, hb1⟩; have HB1 : Hid (BxW w 26 cs w1) := BxW.below HB.out hb1; clear z2 z16 z12; obtain ⟨z2, z16, z12⟩ := HC.out _ HB1.out; have HSM : Hid (sm = true → n ≤ 300) := hsm; clear hsm hb1 HB; cases sm))
  · go_ret
    exact ⟨⟨false, rfl, fun q => by cases q⟩, HB1.out.bel⟩
  · go_ret
    exact ⟨⟨_, rfl, fun q => HSM.out (by trivial)⟩, HB1.out.bel⟩
end Go.Proofs.YtaooidckmepdeaaDoor
