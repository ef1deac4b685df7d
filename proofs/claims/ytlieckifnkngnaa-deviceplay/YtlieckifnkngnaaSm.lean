/- The statement's own same. -/
import Derived.Test.YtlieckifnkngnaaTwo
namespace Go.Proofs.Ytlieckifnkngnaa
set_option linter.unusedSimpArgs false
set_option linter.unusedVariables false
open Go.RowKit Go.MapKept
section
variable {B : Nat} {w w' : World} {p q g : Nat} {dp dr d : Dv} {c : List Nat}
set_option maxRecDepth 100000 in
set_option maxHeartbeats 2000000 in
theorem same_any (h : Two B w p d q d []) :
    Calls Try.prog 16 #[.pointer (some ⟨p, 0, none⟩), .pointer (some ⟨q, 0, none⟩)] w fun e w' => e = .returned (.bool true) ∧ Two B w' p d q d [] ∧ Below w.heap.size w w' := by
  have HT : Hid (∀ w', Below w.heap.size w w' → Two B w' p d q d []) := fun w' hb => h.below hb
  obtain ⟨gB, cB, gP, cP, bs, ps, rs, G, last, hF, hR, hB, hE⟩ := h
  obtain ⟨F, hd⟩ := hF.head
  have HR : Hid (∀ w', Below w.heap.size w w' → RefAt B w' q gB cB gP cP bs ps rs G d last) := fun w' hb => hR.below hb
  have HD : Hid (∀ w', Below w.heap.size w w' → Dev w' p F d) := fun w' hb => hd.keeps (Keeps.of_below hb []) (by simp)
  have H24 : Hid (∀ n, Calls Try.prog 24 #[.pointer (some ⟨p, 0, none⟩)] (w.drewN n) fun e w'' => e = .returned (.int .i64 (d.ops : Int)) ∧ ∃ m, w'' = w.drewN m) := fun n => by
    obtain ⟨fb, pb, tb, rfl, hI⟩ := hd
    refine (ops_any p fb pb tb d (w.drewN n) (hI.heap rfl)).mono ?_
    rintro e w'' ⟨rfl, rfl⟩
    exact ⟨rfl, n, rfl⟩
  have H17 : Hid (∀ n, Calls Try.prog 17 #[.pointer (some ⟨p, 0, none⟩)] (w.drewN n) fun e w'' => e = .returned (.int .i64 (d.n : Int)) ∧ ∃ m, w'' = w.drewN m) := fun n => by
    obtain ⟨fb, pb, tb, rfl, hI⟩ := hd
    refine (blocks_any p fb pb tb d (w.drewN n) (hI.heap rfl)).mono ?_
    rintro e w'' ⟨rfl, rfl⟩
    exact ⟨rfl, n, rfl⟩
  obtain ⟨c0, c1, c2, c3⟩ := hR.c
  have hn2 := hR.ok.n2
  have HOK : Hid (∀ k, (d.cur k).length = 512 ∧ ∀ i, (d.cur k).getD i 0 < 256) := fun k => hR.ok.cur k
  clear hF hR hd
  go_enter Try.func16, Try.ntmps16
  go_wp2
  go_quiet (first
    | (go_at_call 24; exact H24.out _)
    | (go_at_call 17; exact H17.out _))
  go_wp2
  go_loopw [5] (fun i wr => ∃ k : Nat, k ≤ d.n + 2 ∧ i = .int .i64 ((k : Int) - 1) ∧ Below w.heap.size w wr) (fun i _ => d.n + 2 - (iof i + 1).toNat)
  case atStart => exact ⟨0, by omega, rfl, below_drewN ⟨_, rfl⟩⟩
  case round =>
    obtain ⟨k, hk, rfl, hbel⟩ := hrel
    have hsz := hbel.size
    have hR1 := HR.out _ hbel
    have hd1 := HD.out _ hbel
    have q0 : wr.cell? ⟨q, 0, none⟩ = some (.slice (some ⟨gB, 0, none⟩) d.n cB) := hR1.c.1
    by_cases hkn : k = d.n + 2
    · subst hkn
      have hle : ¬ (((d.n + 2 : Nat) : Int) - 1 ≤ (d.n : Int)) := by omega
      have hfin := HT.out _ hbel
      clear hR1 hd1
      go_wp2
      go_ret
      exact ⟨rfl, hfin, hbel⟩
    · obtain ⟨z, hz⟩ : ∃ z : Int, (k : Int) - 1 = z := ⟨_, rfl⟩
      have hzl : z ≤ (d.n : Int) := by omega
      have hzi : z + 1 = ((k + 1 : Nat) : Int) - 1 := by omega
      have hzlo : -1 ≤ z := by omega
      by_cases hin : 0 ≤ z ∧ z < (d.n : Int)
      · obtain ⟨j, rfl⟩ : ∃ j : Nat, z = (j : Int) := ⟨z.toNat, by omega⟩
        rw [hz]
        have hj : j < d.n := by omega
        have K18 : Hid _ := readD hd1 j hj
        have K34 : Hid (∀ w', Below wr.heap.size wr w' → Calls Try.prog 34 #[.pointer (some ⟨q, 0, none⟩), .int .i64 (j : Int)] w' fun e w'' => ∃ a cap, e = .returned (.tuple #[.slice a 512 cap, .int .i64 0]) ∧ Row w'' a (d.cur j) ∧ Below w'.heap.size w' w'') := fun w' hb => refRead_ok (hR1.below hb) j hj
        obtain ⟨C, HC⟩ : ∃ C, Hid (d.cur j = C) := ⟨_, rfl⟩
        have HO := HOK.out j
        rw [HC.out] at K18 K34 HO
        have HCl : Hid (C.length = 512) := HO.1
        have HCb : Hid (∀ i, C.getD i 0 < 256) := HO.2
        have K19 : Hid (∀ (g : Nat) a cap w', Full w' g 75 C → Row w' a C → Calls Try.prog 19 #[.slice (some ⟨g, 0, none⟩) 512 512, .slice a 512 cap] w' fun e w'' => e = .returned (.bool true) ∧ Below w'.heap.size w' w'') := fun g a cap w' f r => by
          have := bytes_any (some ⟨g, 0, none⟩) 512 C a cap C w' (f.row HCb.out) r (by rw [HCl.out]; decide) (by rw [HCl.out]; decide)
          rw [HCl.out] at this
          refine this.mono ?_
          rintro e w'' ⟨rfl, hn⟩
          exact ⟨by simp, below_drewN hn⟩
        clear hR1 hd1 HO
        go_wp2_with (first
          | (go_at_call 18; refine Calls.mono K18.out ?_; rintro e w1 ⟨g1, rfl, f1, _, b1⟩)
          | (go_at_call 34; refine (K34.out _ b1).mono ?_; rintro e w2 ⟨a2, cap2, rfl, r2, b2⟩)
          | (go_at_call 19; refine (K19.out _ _ _ _ (f1.below b2) r2).mono ?_; rintro e w3 ⟨rfl, b3⟩))
        have hb : Below w.heap.size w w3 := ((hbel.trans (b1.mono hsz)).trans (b2.mono (by have := b1.size; omega))).trans (b3.mono (by have := b1.size; have := b2.size; omega))
        exact ⟨⟨k + 1, by omega, by rw [← hzi]; go_num, hb⟩, by simp [iof]; omega⟩
      · rw [hz]
        have hbad : hasB d.n z = false := by simp [hasB]; omega
        have K18 : Hid (Calls Try.prog 18 #[.pointer (some ⟨p, 0, none⟩), .int .i64 z] wr fun e w' => e = .returned (.tuple #[.slice none 0 0, .int .i64 1]) ∧ w' = wr) := by
          obtain ⟨fb, pb, tb, rfl, hI⟩ := hd1
          exact read_bad p fb pb tb d z wr hI hbad
        have K34 : Hid _ := refRead_bad hR1 z hbad
        have K19 : Hid _ := bytes_any none 0 [] none 0 [] wr (Row.nil _ _) (Row.nil _ _) (by simp) (by simp)
        clear hR1 hd1
        go_wp2_with (first
          | (go_at_call 18; refine Calls.mono K18.out ?_; rintro e w1 ⟨rfl, hw⟩; subst w1)
          | (go_at_call 34; refine Calls.mono K34.out ?_; rintro e w1 ⟨rfl, hw⟩; subst w1)
          | (go_at_call 19; refine Calls.mono K19.out ?_; rintro e w1 ⟨rfl, hw⟩; have b1 := below_drewN hw; clear hw))
        exact ⟨⟨k + 1, by omega, by rw [← hzi]; go_num, hbel.trans (b1.mono hsz)⟩, by simp [iof]; omega⟩
end
end Go.Proofs.Ytlieckifnkngnaa
