/- The walk of BitsMaps: true for every argument, and nothing that was there is turned. -/
import Derived.Test.YtffnhmccoacglaaNmw
import Derived.Test.YtffnhmccoacglaaRbt
namespace Go.Proofs.Ytffnhmccoacglaa
set_option linter.unusedSimpArgs false
set_option linter.unusedVariables false
open Go.RowKit
set_option maxRecDepth 100000 in
set_option maxHeartbeats 1600000 in
theorem bitsMaps_walk (a0 : Option Addr) (cap0 : Nat) (l0 : List Nat) (a1 : Int) (a2 : Bool) (a3 : Int) (w : World) (w0 : Row w a0 l0) (m0 : l0.length ≤ maxLen) (n0 : a0 = none → cap0 = 0) (w1 : (Lit.int .i64 a1).wf = true) (w3 : (Lit.int .i64 a3).wf = true) :
    Calls Try.prog 6 #[.slice a0 l0.length cap0, .int .i64 a1, .bool a2, .int .i64 a3] w fun e w' => e = .returned (.bool true) ∧ Below w.heap.size w w' := by
  obtain ⟨c0, c1⟩ := bd64 w1
  obtain ⟨d0, d1⟩ := bd64 w3
  clear w1 w3
  by_cases hl : 2000 < (l0.length : Int)
  · go_enter Try.func6, Try.ntmps6
    go_wp2_with (go_at_call 14; refine (awake_any _).mono ?_; rintro e w' ⟨rfl, hb⟩)
    go_ret
    exact ⟨rfl, by assumption⟩
  have hl2 : l0.length ≤ 2000 := by omega
  obtain ⟨tb, HTB⟩ : ∃ tb, Hid (tstI l0 a1 = tb) := ⟨_, rfl⟩
  obtain ⟨ct, HCT⟩ : ∃ ct, Hid (cntI l0 a3 = ct) := ⟨_, rfl⟩
  have HLt := setL_lt l0 a1 a2 w0.lt
  have HLn := setL_length l0 a1 a2
  obtain ⟨L, HL⟩ : ∃ L, Hid (setL l0 a1 a2 = L) := ⟨_, rfl⟩
  rw [HL.out] at HLt HLn
  have HLt' : Hid (∀ j, L.getD j 0 < 256) := HLt
  have HLn' : Hid (L.length = l0.length) := HLn
  have e1 : (tb == tb) = true := by simp
  have e2 : (ct == ct) = true := by simp
  clear HLt HLn
  go_enter Try.func6, Try.ntmps6
  go_wp2_with fail
  refine (lent_any a0 cap0 l0 w w0 hl2 n0).mono ?_
  rintro e w1 ⟨⟨g, capp, rfl, hown⟩, hb1⟩
  have hrp := row_front (hown.row (lt77 l0 w0.lt))
  have hr1 := w0.below hb1
  have hc77 := lent77 hown
  have hcap := hown.le77
  have HB1 : Hid (Below w.heap.size w w1) := hb1
  have HS1 := hb1.size
  clear hown hb1
  go_wp2_with fail
  have ht := set_any (some ⟨g, 0, none⟩) capp l0 a1 a2 w1 hrp hl2 c1
  rw [HL.out] at ht
  refine ht.mono ?_
  clear ht
  rintro e w2 ⟨⟨gc, rfl, hownc⟩, hb2⟩
  have hrp2 := hrp.below hb2
  have hr2 := hr1.below hb2
  have HHP : Hid (Row w1 (some ⟨g, 0, none⟩) l0) := hrp
  have HHR : Hid (Row w1 a0 l0) := hr1
  have HH77 : Hid (w1.cell? ⟨g, l0.length, none⟩ = some (.int .u8 77)) := hc77
  clear hrp hr1 hc77
  go_wp2_with (first
    | (go_at_call 35; refine (test_any _ _ _ _ _ hrp2 m0 c1).mono ?_; rintro e w' ⟨rfl, hw⟩; subst w'; rw [HTB.out])
    | (go_at_call 36; refine (rtest_any _ _ _ _ _ hr2 hl2 c0 c1).mono ?_; rintro e w' ⟨rfl, hw⟩; subst w'; rw [HTB.out]))
  have ht := rset_any a0 cap0 l0 a1 a2 w2 hr2 hl2 n0 c0 c1
  rw [HL.out] at ht
  refine ht.mono ?_
  clear ht
  rintro e w3 ⟨⟨v, rfl, hownd⟩, hb3⟩
  obtain ⟨da, dc, rfl, hrowd, hmd⟩ := owns_row hownd HLt'.out
  have hownc3 := hownc.below hb3
  have hrowc3 := hownc3.row HLt'.out
  have hrp3 := hrp2.below hb3
  have hr3 := hr2.below hb3
  have hb13 : Below w1.heap.size w1 w3 := hb2.trans (hb3.mono hb2.size)
  have HB13 : Hid (Below w1.heap.size w1 w3) := hb13
  have HOC : Hid (Own w1.heap.size w3 gc l0.length L) := hownc3
  clear hownc hb2 hownd hb3 hownc3 hb13 hrp2 hr2
  go_wp2_with fail
  have ht := bytes_any (some ⟨gc, 0, none⟩) l0.length L da dc L w3 hrowc3 hrowd hmd hmd
  rw [HLn'.out, show decide (L = L) = true by simp] at ht
  rw [HLn'.out]
  refine ht.mono ?_
  clear ht
  rintro e w4 ⟨rfl, n, rfl⟩
  clear hrowc3 hrowd hmd
  go_wp2_with fail
  refine (first_any (some ⟨g, 0, none⟩) capp l0 a3 _ (hrp3.drewN n) hl2).mono ?_
  rintro e w5 ⟨⟨r, rfl, hf1⟩, hw5⟩
  subst w5
  go_wp2_with fail
  refine (rfirst_any a0 cap0 l0 a3 _ (hr3.drewN n) hl2).mono ?_
  rintro e w5 ⟨⟨r', rfl, hf2⟩, hw5⟩
  subst w5
  obtain rfl := hf1.one hf2
  have e3 : (r == r) = true := by simp
  clear hf1 hf2
  go_wp2_with (first
    | (go_at_call 40; refine (count_any _ _ _ _ _ (hrp3.drewN n) hl2 d0 d1).mono ?_; rintro e w' ⟨rfl, hw⟩; subst w'; rw [HCT.out])
    | (go_at_call 41; refine (rcount_any _ _ _ _ _ (hr3.drewN n) hl2).mono ?_; rintro e w' ⟨rfl, hw⟩; subst w'; rw [HCT.out]))
  clear hrp3 hr3
  go_loopw [12] (fun i wr => ∃ (t : Nat) (cur : List Nat), t ≤ l0.length ∧ cur.length = l0.length ∧ i = .int .i64 t ∧ Own w1.heap.size wr gc l0.length cur ∧ Below w1.heap.size w1 wr) (fun i _ => l0.length - (intOf i).toNat)
  case atStart => exact ⟨0, L, by omega, HLn'.out, rfl, HOC.out.drewN n, below_drewN HB13.out n⟩
  case round =>
    obtain ⟨t, cur, ht, hcl, rfl, hownr, hbr⟩ := hrel
    by_cases htl : t < l0.length
    · have hcell := hownr.cell t (by omega)
      have hfree := hownr.free t
      have hge := hownr.ge.1
      generalize cur.getD t 0 = c at *
      have htI : (t : Int) < (l0.length : Int) := by omega
      have HCl : Hid (cur.length = l0.length) := hcl
      clear hcl
      go_wp2
      exact ⟨⟨t + 1, cur.set t 99, by omega, by rw [List.length_set]; exact HCl.out, by go_num, hownr.store t 99, hbr.setCell hge _⟩, by simp [intOf]; omega⟩
    · have hrpr := HHP.out.below hbr
      have hrr := HHR.out.below hbr
      have h77 : wr.cell? ⟨g, l0.length, none⟩ = some (.int .u8 77) := by
        rw [hbr.cell (World.block_lt_of_cell? _ _ HH77.out)]; exact HH77.out
      have HBr : Hid (Below w.heap.size w wr) := HB1.out.trans (hbr.mono HS1)
      clear hownr hbr hcl
      go_wp2_with fail
      refine (back_any g capp a0 cap0 l0 wr hrpr hrr hl2 hcap h77).mono ?_
      rintro e w6 ⟨rfl, n', rfl⟩
      clear hrpr hrr h77
      go_wp2_with fail
      refine (awake_any _).mono ?_
      rintro e w7 ⟨rfl, hb7⟩
      have HB7 : Hid (Below w.heap.size w w7) := (below_drewN HBr.out n').trans (hb7.mono HBr.out.size)
      clear hb7
      go_wp2_with fail
      go_ret
      exact ⟨rfl, HB7.out⟩
end Go.Proofs.Ytffnhmccoacglaa
