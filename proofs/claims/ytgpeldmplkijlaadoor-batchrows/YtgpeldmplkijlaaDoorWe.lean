/- The walk of BatchEncodes. -/
import Derived.Test.YtgpeldmplkijlaaDoorAw
import Derived.Test.YtgpeldmplkijlaaDoorRy
import Derived.Deep.RegionHeld3
namespace Go.Proofs.YtgpeldmplkijlaaDoor
set_option linter.unusedSimpArgs false
set_option linter.unusedVariables false
open Go.RowKit
/-- What comes in as a batch. -/
def BaOk (w : World) (b : Ba) (a : Option Addr) (cap : Nat) : Prop := RRow w a b.rs ∧ In64B b ∧ b.rs.length ≤ maxLen ∧ (a = none → cap = 0) ∧ ((Lit.int .i64 b.base).wf = true ∧ (Lit.int .i64 b.span).wf = true)
theorem encR_lt (b : Ba) : ∀ i, (encBR b).getD i 0 < 256 := by
  unfold encBR
  split
  · rename_i h
    exact lt_mem (encB_mem (chk_parts h).1)
  · intro i; simp
theorem encR_len (b : Ba) : (encBR b).length ≤ 6000 := by
  unfold encBR
  split
  · rename_i h
    have := (chk_parts h).2
    rw [encB_len]
    exact this
  · simp
set_option maxHeartbeats 1600000 in
set_option maxRecDepth 100000 in
theorem batchEncodes_walk (b : Ba) (a : Option Addr) (cap : Nat) (w : World) (ht : Tab w) (w0 : BaOk w b a cap) :
    Calls Tryd.prog 3 #[bav b a cap] w fun e w' => e = .returned (.bool true) ∧ Below w.heap.size w w' := by
  obtain ⟨hr, hi, hl, hn, _⟩ := w0
  have HSM : Hid (∀ x, RRow x a b.rs → Calls Tryd.prog 11 #[.slice a b.rs.length cap] x fun e w' => IsB b.rs.length e ∧ Below x.heap.size x w') := fun x hx => small_any a cap b.rs x hx hl
  have HE := bencode_any b a cap hi hl
  have HG := rencodeB_any b a cap hi hl
  unfold BEnc at HE HG
  have HE1 : Hid _ := HE
  have HG1 : Hid _ := HG
  clear HE HG
  have HC1 : Hid (∀ x, Tab x → RRow x a b.rs → Calls Tryd.prog 16 #[bav b a cap] x fun e w' => e = .returned (.int .i64 (chkB b)) ∧ Below x.heap.size x w') := fun x h1 h2 => bcheck_any b a cap x hi hl h1 h2
  have HC2 : Hid (∀ x, RRow x a b.rs → Calls Tryd.prog 17 #[bav b a cap] x fun e w' => e = .returned (.int .i64 (chkB b)) ∧ Below x.heap.size x w') := fun x h2 => rcheckB_any b a cap x h2 hi hl
  have HLB : Hid (∀ i, (encBR b).getD i 0 < 256) := encR_lt b
  have HLL : Hid ((encBR b).length ≤ maxLen) := by show _ ≤ _; have := encR_len b; unfold maxLen; omega
  have HA : Hid (∀ x, Tab x → Calls Tryd.prog 12 #[] x fun e w' => e = .returned (.bool true) ∧ Below x.heap.size x w') := fun x h => awake_any x h
  generalize encBR b = L at *
  generalize chkB b = c at *
  obtain ⟨base, span, prod, seq, rs⟩ := b
  simp only [bav] at *
  have HR0 : Hid (RRow w a rs) := hr
  have HT : Hid (Tab w) := ht
  have hB0 : BxS w (bcells ⟨base, span, prod, seq, rs⟩ a cap) (w.alloc (.cells #[.int .i64 base, .int .i64 span, .int .i64 prod, .int .i64 seq, .slice a rs.length cap] 24)) := BxS.new w _
  have HB0 : Hid _ := hB0
  clear hr ht hB0
  have HBY : Hid (∀ x p k q j, Row x p L → Row x q L → Calls Tryd.prog 15 #[.slice p L.length k, .slice q L.length j] x fun e w' => e = .returned (.bool true) ∧ ∃ n, w' = x.drewN n) := by
    intro x p k q j h1 h2
    have := bytes_any p k L q j L x h1 h2 HLL.out HLL.out
    rw [decide_eq_true rfl] at this
    exact this
  go_enter Tryd.func3, Tryd.ntmps3
  have HSS : Hid (∀ x, BxS w (bcells ⟨base, span, prod, seq, rs⟩ a cap) x → (fun y : World => y.cell? ⟨w.heap.size, 0, none⟩ = some (.int .i64 base) ∧ y.cell? ⟨w.heap.size, 1, none⟩ = some (.int .i64 span) ∧ y.cell? ⟨w.heap.size, 2, none⟩ = some (.int .i64 prod) ∧ y.cell? ⟨w.heap.size, 3, none⟩ = some (.int .i64 seq) ∧ y.cell? ⟨w.heap.size, 4, none⟩ = some (.slice a rs.length cap)) x) := by
    intro x h
    obtain ⟨c0, c1, c2, c3, c4, _⟩ := BxS.cells h
    exact ⟨c0, c1, c2, c3, c4⟩
  go_wp2_with (first
    | (go_at_call 11; refine (HSM.out _ (RRow.below HR0.out (below_box _))).mono ?_; rintro e w1 ⟨⟨sm, rfl, hsm⟩, hb1⟩; have HB1 : Hid (BxS w (bcells ⟨base, span, prod, seq, rs⟩ a cap) w1) := BxS.below HB0.out hb1; obtain ⟨c0, c1, c2, c3, c4, cz⟩ := BxS.cells HB1.out; simp only at c0 c1 c2 c3 c4; clear hb1 HB0)
    | (go_at_call 12; have _t := HB1; refine (HA.out _ (Tab.below HT.out HB1.out.bel)).mono ?_; rintro e w9 ⟨rfl, hb9⟩; have HB9 : Hid (Below w.heap.size w w9) := HB1.out.bel.trans (hb9.mono HB1.out.bel.size))
    | (go_at_call 13; refine (HE1.out _ (Tab.below HT.out HB1.out.bel) (RRow.below HR0.out HB1.out.bel)).mono ?_; rintro e w2 ⟨v2, rfl, hown2, hb2⟩; obtain ⟨a2, k2, rfl, hr2, _⟩ := owns_sl hown2 HLB.out; have HB2 : Hid (BxS w (bcells ⟨base, span, prod, seq, rs⟩ a cap) w2) := BxS.below HB1.out hb2; have HR2 : Hid (Row w2 a2 L) := hr2; clear c0 c1 c2 c3 c4 cz hown2 hb2 HB1 hr2; obtain ⟨c0, c1, c2, c3, c4, cz⟩ := BxS.cells HB2.out; simp only at c0 c1 c2 c3 c4)
    | (go_at_call 14; refine (HG1.out _ (Tab.below HT.out HB2.out.bel) (RRow.below HR0.out HB2.out.bel)).mono ?_; rintro e w3 ⟨v3, rfl, hown3, hb3⟩; obtain ⟨a3, k3, rfl, hr3, _⟩ := owns_sl hown3 HLB.out; have HB3 : Hid (BxS w (bcells ⟨base, span, prod, seq, rs⟩ a cap) w3) := BxS.below HB2.out hb3; have HR2b : Hid (Row w3 a2 L) := Row.below HR2.out hb3; have HR3 : Hid (Row w3 a3 L) := hr3; clear c0 c1 c2 c3 c4 cz hown3 hb3 HB2 hr3 HR2; obtain ⟨c0, c1, c2, c3, c4, cz⟩ := BxS.cells HB3.out; simp only at c0 c1 c2 c3 c4))
  · go_ret
    exact ⟨rfl, HB9.out⟩
  · have hcc : (c == c) = true := by simp
    have hS0 := HSS.out _ HB3.out
    clear c0 c1 c2 c3 c4 cz
    go_region_held3 (fun y : World => y.cell? ⟨w.heap.size, 0, none⟩ = some (.int .i64 base) ∧ y.cell? ⟨w.heap.size, 1, none⟩ = some (.int .i64 span) ∧ y.cell? ⟨w.heap.size, 2, none⟩ = some (.int .i64 prod) ∧ y.cell? ⟨w.heap.size, 3, none⟩ = some (.int .i64 seq) ∧ y.cell? ⟨w.heap.size, 4, none⟩ = some (.slice a rs.length cap)) (first | exact hS7 | exact hS6 | exact hS5 | exact hS4 | exact hS0)
      ((first
        | (go_at_call 15; refine (HBY.out _ _ _ _ _ (Row.below HR2b.out (Below.refl _ _).drew) (Row.below HR3.out (Below.refl _ _).drew)).mono ?_; rintro e w4 ⟨rfl, n4, hw4⟩; have HB4 : Hid (BxS w (bcells ⟨base, span, prod, seq, rs⟩ a cap) w4) := (by rw [hw4]; exact BxS.below HB3.out (below_drewN (Below.refl _ _).drew _)); have hS4 := HSS.out _ HB4.out; clear hw4)
        | (go_at_call 16; refine (HC1.out _ (Tab.below HT.out HB4.out.bel) (RRow.below HR0.out HB4.out.bel)).mono ?_; rintro e w5 ⟨rfl, hb5⟩; have HB5 : Hid (BxS w (bcells ⟨base, span, prod, seq, rs⟩ a cap) w5) := BxS.below HB4.out hb5; have hS5 := HSS.out _ HB5.out; clear hb5)
        | (go_at_call 17; refine (HC2.out _ (RRow.below HR0.out HB5.out.bel)).mono ?_; rintro e w6 ⟨rfl, hb6⟩; have HB6 : Hid (BxS w (bcells ⟨base, span, prod, seq, rs⟩ a cap) w6) := BxS.below HB5.out hb6; have hS6 := HSS.out _ HB6.out; clear hb6)
        | (go_at_call 12; refine (HA.out _ (Tab.below HT.out HB6.out.bel)).mono ?_; rintro e w7 ⟨rfl, hb7⟩; have hS7 := HSS.out _ (BxS.below HB6.out hb7); have HB7 : Hid (Below w.heap.size w w7) := HB6.out.bel.trans (hb7.mono HB6.out.bel.size))))
    all_goals go_wp2
    all_goals go_ret
    all_goals exact ⟨rfl, HB7.out⟩
end Go.Proofs.YtgpeldmplkijlaaDoor
