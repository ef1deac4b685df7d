/- The walk of RecordDecodes. -/
import Derived.Test.YthfcefmkcgjfcaaRa
import Derived.Test.YthfcefmkcgjfcaaLw
namespace Go.Proofs.Ythfcefmkcgjfcaa
set_option linter.unusedSimpArgs false
set_option linter.unusedVariables false
open Go.RowKit
theorem owns_sl2 {w : World} {B : Nat} {v : Value} {l : List Nat} (h : w.ownsRow B 5 1 v l.length (cv l)) (hb : ∀ i, l.getD i 0 < 256) : ∃ a c, v = .slice a l.length c ∧ Row w a l ∧ l.length ≤ c ∧ c ≤ maxLen := by
  rcases h.2 with ⟨rfl, h0⟩ | ⟨g, cap, cur, rfl, hB, hg, hle, hm, _, _⟩
  · refine ⟨none, 0, by rw [h0], ?_, by omega, by decide⟩
    intro i hi; omega
  · exact ⟨_, cap, rfl, Own.row (B := B) (cap := cap) h hb, hle, hm⟩
theorem app_nil {B : Nat} {w : World} {v : Value} {l : List Nat} (h : w.ownsRow B 5 1 v (0 + l.length) ([] ++ cv l)) : w.ownsRow B 5 1 v l.length (cv l) := by
  rw [Nat.zero_add, List.nil_append] at h
  exact h
set_option maxRecDepth 100000 in
set_option maxHeartbeats 1000000 in
theorem recordDecodes_walk (a0 : Option Addr) (cap0 : Nat) (l0 : List Nat) (a1 : Int) (u : World) (w0 : Came u a0 cap0 l0) (w1 : (Lit.int .i64 a1).wf = true) :
    Calls Try.prog 4 #[.slice a0 l0.length cap0, .int .i64 a1] u fun e w' => e = .returned (.bool true) ∧ Below u.heap.size u w' := by
  obtain ⟨hr, hlc, hcm, hs, hn⟩ := w0
  clear w1
  have HA : Hid _ := awake_any
  by_cases h6 : l0.length ≤ 6000
  · have h6I : ¬ (6000 : Int) < (l0.length : Int) := by omega
    have HLT : Hid _ := hr.lt
    have HD : Hid _ := fun a cap w' (h1 : Row w' a l0) h2 h3 => decode_any a cap l0 a1 w' h1 h2 h3
    have HR : Hid _ := fun w' (h1 : Row w' a0 l0) => rdecode_any a0 cap0 l0 a1 w' h1 h6 hlc hcm
    have HBY : Hid (∀ a ca w', Row w' a l0 → Row w' a0 l0 → Calls Try.prog 13 #[.slice a l0.length ca, .slice a0 l0.length cap0] w' fun e w2 => e = .returned (.bool true) ∧ ∃ n, w2 = w'.drewN n) := by
      intro a ca w' h1 h2
      have := bytes_any a ca l0 a0 cap0 l0 w' h1 h2 (by unfold maxLen; omega) (by unfold maxLen; omega)
      rw [decide_eq_true rfl] at this
      exact this
    generalize decR l0 a1 = r at *
    generalize decN l0 a1 = n at *
    generalize decE l0 a1 = c at *
    obtain ⟨hk, k, hv, v, t, o⟩ := r
    simp only [Rc.cells] at HD HR
    go_enter Try.func4, Try.ntmps4
    go_wp2_with (first
      | (at_builtin; refine wpList_append_row (by rfl) _ _ rfl u.heap.size u _ 0 [] rfl (World.ownsRow_nil _ _ _ _) (Below.refl _ _) (Nat.le_refl _) a0 cap0 l0 rfl hr hn (by omega) ?_; intro v1 w1 hown1 hb1; obtain ⟨g1, c1, rfl, R1, q1, q2⟩ := owns_sl2 (app_nil hown1) HLT.out; clear hown1)
      | (go_at_call 16; refine (HD.out _ _ _ R1 q1 q2).mono ?_; rintro e w2 ⟨rfl, hb2⟩)
      | (go_at_call 17; refine (HR.out _ (hr.below ((hb1.trans (hb2.mono hb1.size)).alloc ((hb1.trans (hb2.mono hb1.size))).size _))).mono ?_; rintro e w3 ⟨rfl, hb3⟩; have HS3 : Hid _ := SE.below (SE.new w2 ⟨hk, k, hv, v, t, o⟩) hb3; obtain ⟨⟨z0, z1, z2, z3, z4, z5⟩, _⟩ := HS3.out; simp only at z0 z1 z2 z3 z4 z5; have hz3 := World.block_lt_of_cell? _ _ z0; simp only at hz3; have HB3 : Hid _ := (hb1.trans (hb2.mono hb1.size)).trans (HS3.out.2.mono (hb1.trans (hb2.mono hb1.size)).size))
      | (go_at_call 13; refine (HBY.out _ _ _ (R1.below ((hb2.trans (HS3.out.2.mono hb2.size)).alloc (hb2.trans (HS3.out.2.mono hb2.size)).size _)) (hr.below (HB3.out.alloc HB3.out.size _))).mono ?_; rintro e w4 ⟨rfl, m, hm4⟩)
      | (go_at_call 10; refine (HA.out _).mono ?_; rintro e w5 ⟨rfl, hb5⟩))
    go_ret
    have hB4 := below_drewN (HB3.out.alloc HB3.out.size (.cells #[.bool hk, .string k, .bool hv, .string v, .int .i64 t, .int .i64 o] 23)) m
    exact ⟨rfl, hB4.trans (hb5.mono hB4.size)⟩
  · have h6I : (6000 : Int) < (l0.length : Int) := by omega
    go_enter Try.func4, Try.ntmps4
    go_wp2_with (go_at_call 10; refine (HA.out _).mono ?_; rintro e w5 ⟨rfl, hb5⟩)
    go_ret
    exact ⟨rfl, hb5⟩
end Go.Proofs.Ythfcefmkcgjfcaa
