/- The walk of FrameCuts. -/
import Derived.Test.YthbomgjjdmogpaaAc
namespace Go.Proofs.Ythbomgjjdmogpaa
set_option linter.unusedSimpArgs false
set_option linter.unusedVariables false
open Go.RowKit
set_option maxRecDepth 100000 in
theorem cuts_odd (a : Option Addr) (cap n : Nat) (size : Int) (w : World) (h : 20000 < n ∨ size < 1) (hm : n ≤ maxLen) :
    Calls Try.prog 4 #[.slice a n cap, .int .i64 size] w fun e w' => e = .returned (.bool true) ∧ Below w.heap.size w w' := by
  have HA : Hid _ := awake_any w
  unfold maxLen at hm
  by_cases hn : 20000 < n
  · have hI : (20000 : Int) < (n : Int) := by omega
    go_enter Try.func4, Try.ntmps4
    go_wp2_with (go_at_call 10; refine Calls.mono HA.out ?_; rintro e w9 ⟨rfl, hb9⟩)
    go_ret
    exact ⟨rfl, hb9⟩
  · have hs : size < 1 := by omega
    have hI : ¬ (20000 : Int) < (n : Int) := by omega
    go_enter Try.func4, Try.ntmps4
    go_wp2_with (go_at_call 10; refine Calls.mono HA.out ?_; rintro e w9 ⟨rfl, hb9⟩)
    go_ret
    exact ⟨rfl, hb9⟩
/-- What the loop keeps. -/
def CutL (W : World) (B pf pg : Nat) (vf Tx : Value) (fsx : List Fr) (l : List Nat) (y is i : Value) (x : World) : Prop :=
  ∃ (k : Nat) (vg : Value) (fsy : List Fr), k ≤ l.length ∧ i = .int .i64 k ∧ is = .bool (frames (l.take k)).2.1 ∧ Acc x B pg vg (frames (l.take k)).2.2 (!(frames (l.take k)).2.1) y fsy ∧ fsy.map (·.b) = (frames (l.take k)).1 ∧ Stat x (ft pg vg y) Tx fsx ∧ (FeIs x B pf vf (frames l).2.2 (!(frames l).2.1) ∧ ∀ z ∈ fp pf vf, z ∉ ft pg vg y) ∧ Below B W x
theorem cut_first {w w1 : World} {B p : Nat} {a : Option Addr} {cap : Nat} {l : List Nat} (hi : InE w [] a cap l) (hB : w.heap.size = B) (hf : FeIs w1 B p (.slice none 0 0) [] false) (hb : Below B w w1) (hl : l.length ≤ 1000000) :
    Calls Try.prog 12 #[.pointer (some ⟨p, 0, none⟩), .slice a l.length cap] (w1.alloc (.cells (zc false) 37)) fun e w2 => ∃ T fs v, e = .returned (.tuple #[T, .bool (frames l).2.1]) ∧ fs.map (·.b) = (frames l).1 ∧ CutL w B p w1.heap.size v T fs l (.slice none 0 0) (.bool true) (.int .i64 0) w2 := by
  have hs : B ≤ w1.heap.size := by have := hb.size; omega
  have hf2 := hf.below (below_box (.cells (zc false) 37))
  have hb2 : Below B w (w1.alloc (.cells (zc false) 37)) := hb.alloc hs _
  have hs2 : B ≤ (w1.alloc (.cells (zc false) 37)).heap.size := by simp; omega
  have hp : p < w1.heap.size := (hf.lts p (by simp [fp])).2
  have hg : FeIs (w1.alloc (.cells (zc false) 37)) B w1.heap.size (.slice none 0 0) [] false := zc_fe (heap_alloc_new w1 _) hs
  refine (feed_any B p _ [] false a cap l _ hf2 (hi.arg hb2 hB (fun x hx => (hf.lts x hx).1)) hs2 hl).mono ?_
  rintro e w2 ⟨T, fs, v, rfl, ho, hfs, hall, hfe, hk, hv, hbl⟩
  have e0 : feedS false [] l = frames l := rfl
  rw [e0] at hfs hfe ⊢
  have hne : ∀ x ∈ fp p v, x ≠ w1.heap.size := fun x hx e => by
    rcases mem_fp.1 hx with q | q
    · omega
    · rcases hv x q with r | r
      · cases r
      · simp at r; omega
  have hk1 : Keeps [p] (w1.alloc (.cells (zc false) 37)) w2 := hk
  refine ⟨T, fs, v, rfl, hfs, 0, .slice none 0 0, [], by omega, rfl, by rw [List.take_zero, frames_nil], ?_, by rw [List.take_zero, frames_nil]; rfl, ⟨⟨_, ho⟩, fun x hx hm => ?_, fun f hf => ⟨(hall f hf).1, fun x hx => ⟨fun hm => ?_, ((hall f hf).2 x hx).2⟩⟩⟩, ⟨hfe, fun x hx hm => hne x hx (by simpa [ft, Value.ownBlock] using hm)⟩, FDP.below (F := []) hf2 hk hb2 hs2⟩
  · rw [List.take_zero, frames_nil]
    exact Acc.start (hg.keeps hk1 (fun x hx => by simp [fp, Value.ownBlock] at hx ⊢; omega))
  · have h1 := (ho.lt x hx).1
    simp [ft, Value.ownBlock] at hm
    simp at h1
    omega
  · rcases hbl f hf x hx with r | r
    · cases r
    · simp [ft, Value.ownBlock] at hm
      simp at r
      omega
set_option maxHeartbeats 1600000 in
set_option maxRecDepth 100000 in
theorem cuts_in (a : Option Addr) (cap : Nat) (l : List Nat) (size : Nat) (w : World) (hi : InE w [] a cap l) (hn : l.length ≤ 20000) (hs : 1 ≤ size) (hs2 : size ≤ 9223372036854775807) :
    Calls Try.prog 4 #[.slice a l.length cap, .int .i64 (size : Int)] w fun e w' => e = .returned (.bool true) ∧ Below w.heap.size w w' := by
  have hI : ¬ (20000 : Int) < (l.length : Int) := by omega
  have hd : decide ((20000 : Int) < (l.length : Int)) = false := decide_eq_false hI
  have hsI : ¬ (size : Int) < 1 := by omega
  have hsd : decide ((size : Int) < 1) = false := decide_eq_false hsI
  have HI : Hid (InE w [] a cap l) := hi
  have HN : Hid (Calls Try.prog 11 #[] w fun e w' => ∃ p, e = .returned (.pointer (some ⟨p, 0, none⟩)) ∧ w.heap.size ≤ p ∧ FeIs w' w.heap.size p (.slice none 0 0) [] false ∧ Below w.heap.size w w' ∧ Below w.heap.size w w') := new_fe w.heap.size w w (Below.refl _ _) (Nat.le_refl _)
  obtain ⟨B, HB⟩ : ∃ B, Hid (w.heap.size = B) := ⟨_, rfl⟩
  rw [HB.out] at HN ⊢
  have HF1 : Hid (∀ (w1 : World) (p : Nat), FeIs w1 B p (.slice none 0 0) [] false → Below B w w1 → Calls Try.prog 12 #[.pointer (some ⟨p, 0, none⟩), .slice a l.length cap] (w1.alloc (.cells #[.int .u8 0, .int .u8 0, .int .u8 0, .int .u8 0, .int .i64 0, .slice none 0 0, .bool false] 37)) fun e w2 => ∃ T fs v, e = .returned (.tuple #[T, .bool (frames l).2.1]) ∧ fs.map (·.b) = (frames l).1 ∧ CutL w B p w1.heap.size v T fs l (.slice none 0 0) (.bool true) (.int .i64 0) w2) := fun w1 p h1 h2 => cut_first HI.out HB.out h1 h2 (by omega)
  clear hi
  go_enter Try.func4, Try.ntmps4
  go_wp2_with (first
    | (go_at_call 11; refine Calls.mono HN.out ?_; rintro e w1 ⟨p, rfl, hp, hf1, hb1, hb1'⟩; have HFE1 : Hid (FeIs w1 B p (.slice none 0 0) [] false ∧ Below B w w1) := ⟨hf1, hb1⟩; clear hf1 hb1 hb1' hp)
    | (go_at_call 12; refine (HF1.out w1 p HFE1.out.1 HFE1.out.2).mono ?_; rintro e w2 ⟨Tx, fsx, vf, rfl, hfsx, hcl⟩; have HX : Hid (fsx.map (·.b) = (frames l).1) := hfsx; have HL0 : Hid (CutL w B p w1.heap.size vf Tx fsx l (.slice none 0 0) (.bool true) (.int .i64 0) w2) := hcl; clear hfsx hcl HFE1 HF1 HN))
  obtain ⟨pg, hpg⟩ : ∃ pg, pg = w1.heap.size := ⟨_, rfl⟩
  rw [← hpg] at HL0 ⊢
  clear hpg
  go_loopw [9, 10, 11] (fun y is i x => CutL w B p pg vf Tx fsx l y is i x) (fun _ _ i _ => l.length - (intOf i).toNat)
  case atStart => exact HL0.out
  case round =>
    obtain ⟨k, vg, fsy, hk, rfl, rfl, hacc, hmap, hst, hfe, hbel⟩ := hrel
    have HAC : Hid (Acc wr B pg vg (frames (l.take k)).2.2 (!(frames (l.take k)).2.1) u9 fsy ∧ fsy.map (·.b) = (frames (l.take k)).1) := ⟨hacc, hmap⟩
    have HST : Hid (Stat wr (ft pg vg u9) Tx fsx ∧ (FeIs wr B p vf (frames l).2.2 (!(frames l).2.1) ∧ ∀ z ∈ fp p vf, z ∉ ft pg vg u9) ∧ Below B w wr) := ⟨hst, hfe, hbel⟩
    clear hacc hmap hst hfe hbel HL0
    by_cases hlt : k < l.length
    · have hltI : (k : Int) < (l.length : Int) := by omega
      obtain ⟨m, hm⟩ : ∃ m, m = min size (l.length - k) := ⟨_, rfl⟩
      have hm1 : 1 ≤ m ∧ k + m ≤ l.length := by omega
      have HM : Hid (m = min size (l.length - k)) := hm
      have HFD : Hid (Calls Try.prog 12 #[.pointer (some ⟨pg, 0, none⟩), .slice (cutA a cap k) m (cap - k)] wr fun e w2 => ∃ az cz fz v', e = .returned (.tuple #[.slice az fz.length cz, .bool (frames (l.take (k + m))).2.1]) ∧ Acc w2 B pg v' (frames (l.take (k + m))).2.2 (!(frames (l.take (k + m))).2.1) u9 fsy ∧ Step wr w2 pg vg u9 v' u9 ∧ FCells w2 az fz ∧ (az = none → cz = 0) ∧ AllF w2 (fp pg v') fz ∧ (fsy ++ fz).map (·.b) = (frames (l.take (k + m))).1 ∧ Below B w w2 ∧ fsy.length + fz.length ≤ 1000000 ∧ (∀ f, f ∈ fz → ∀ x, f.a = some x → vg.ownBlock = some x.block ∨ wr.heap.size ≤ x.block)) := by
        have hs1 : B ≤ wr.heap.size := by have h1 := HST.out.2.2.size; have h2 := HB.out; omega
        exact HAC.out.1.feed HAC.out.2 HST.out.2.2 hs1 (((HI.out.arg HST.out.2.2 HB.out (fun x hx => (HAC.out.1.fe.lts x hx).1)).cut k).take m) hm1.2 (by omega)
      have ks : ∀ y, (Instr.slice 23 (.slice a l.length cap) (some (.int .i64 (k : Int))) (some (.int .i64 ((k : Int) + (m : Int)))) none).run Try.prog y = .ok (.slice (cutA a cap k) m (cap - k)) y := fun y => run_slice_mid y a l.length cap k m hm1.2 HI.out.le
      have HNX : Hid (∀ (w2 w3 : World) (v' T' : Value) (fz : List Fr), Step wr w2 pg vg u9 v' u9 → Acc w2 B pg v' (frames (l.take (k + m))).2.2 (!(frames (l.take (k + m))).2.1) u9 fsy → AllF w2 (fp pg v') fz → (fsy ++ fz).map (·.b) = (frames (l.take (k + m))).1 → Below B w w2 → w3.ownsRow B 23 1 T' (fsy ++ fz).length ((fsy ++ fz).map Fr.v) → w2.grownBy w3 u9.ownBlock → (T'.ownBlock = u9.ownBlock ∨ ∀ x, T'.ownBlock = some x → w2.heap.size ≤ x) → CutL w B p pg vf Tx fsx l T' (.bool (frames (l.take (k + m))).2.1) (.int .i64 ((k + m : Nat) : Int)) w3) := by
        intro w2 w3 v' T' fz h1 h2 h3 h4 h5 h6 h7 h8
        obtain ⟨h9, h10⟩ := h2.app h3 h6 h7 h8
        have h11 := h1.trans h10
        have hs1 : B ≤ w2.heap.size := by have h1 := h5.size; have h2 := HB.out; omega
        exact ⟨k + m, v', fsy ++ fz, hm1.2, rfl, rfl, h9, h4, HST.out.1.step h11.keep (fun x hx => .inl hx) h11.new, HST.out.2.1.1.step HST.out.2.1.2 h11.keep (fun x hx => .inl hx) h11.new, h10.below h5 hs1 (fun x hx => (h2.lts x hx).1)⟩
      have HOW : Hid (∀ w2 v', Acc w2 B pg v' (frames (l.take (k + m))).2.2 (!(frames (l.take (k + m))).2.1) u9 fsy → Below B w w2 → w2.ownsRow B 23 1 u9 fsy.length (fsy.map Fr.v) ∧ B ≤ w2.heap.size) := fun w2 v' h1 h2 => ⟨h1.owns, by have h3 := h2.size; have h4 := HB.out; omega⟩
      clear hm HAC HST
      have hmI : ((k + m : Nat) : Int) = (k : Int) + (m : Int) := by omega
      have HKM : Hid ((k : Int) + (m : Int) ≤ 20000) := by show _ ≤ _; omega
      obtain ⟨R, HR⟩ : ∃ R, Hid (frames (l.take (k + m)) = R) := ⟨_, rfl⟩
      rw [HR.out] at HFD HNX HOW
      by_cases hbig : size < l.length - k
      · obtain rfl : m = size := by have := HM.out; omega
        have hbI : (m : Int) < (l.length : Int) - (k : Int) := by omega
        go_wp2_with (first
          | (go_at_call 12; refine Calls.mono HFD.out ?_; rintro e w2 ⟨az, cz, fz, v', rfl, h1, h2, h3, h4, h5, h6, h7, h8, h9⟩; have HZ : Hid (FCells w2 az fz ∧ (az = none → cz = 0) ∧ fsy.length + fz.length ≤ 1000000) := ⟨h3, h4, h8⟩; have HO2 := HOW.out w2 v' h1 h7; have HN2 : Hid (∀ (w3 : World) (T' : Value), w3.ownsRow B 23 1 T' (fsy ++ fz).length ((fsy ++ fz).map Fr.v) → w2.grownBy w3 u9.ownBlock → (T'.ownBlock = u9.ownBlock ∨ ∀ x, T'.ownBlock = some x → w2.heap.size ≤ x) → CutL w B p pg vf Tx fsx l T' (.bool R.2.1) (.int .i64 ((k + m : Nat) : Int)) w3) := fun w3 T' => HNX.out w2 w3 v' T' fz h2 h1 h5 h6 h7; have HO3 : Hid (w2.ownsRow B 23 1 u9 fsy.length (fsy.map Fr.v) ∧ B ≤ w2.heap.size) := HO2; clear h1 h2 h3 h4 h5 h6 h7 h8 h9 HO2)
          | (at_builtin; have _t := HN2; refine wpList_append_frs (by rfl) _ _ rfl B _ fsy rfl HO3.out.1 HO3.out.2 az cz fz rfl HZ.out.1 HZ.out.2.1 (by have := HZ.out.2.2; omega) ?_; intro T' w3 h1 h2 h3; have HE : Hid (CutL w B p pg vf Tx fsx l T' (.bool R.2.1) (.int .i64 ((k + m : Nat) : Int)) w3) := HN2.out w3 T' h1 h2 h3; clear h1 h2 h3 _t HN2))
        exact ⟨by rw [← hmI]; exact HE.out, by simp [intOf]; omega⟩
      · have hbI : ¬ (size : Int) < (l.length : Int) - (k : Int) := by omega
        have hlk : (l.length : Int) - (k : Int) = (m : Int) := by have := HM.out; omega
        have hbI2 : ¬ (size : Int) < (m : Int) := by omega
        go_wp2_with (first
          | (go_at_call 12; refine Calls.mono HFD.out ?_; rintro e w2 ⟨az, cz, fz, v', rfl, h1, h2, h3, h4, h5, h6, h7, h8, h9⟩; have HZ : Hid (FCells w2 az fz ∧ (az = none → cz = 0) ∧ fsy.length + fz.length ≤ 1000000) := ⟨h3, h4, h8⟩; have HO2 := HOW.out w2 v' h1 h7; have HN2 : Hid (∀ (w3 : World) (T' : Value), w3.ownsRow B 23 1 T' (fsy ++ fz).length ((fsy ++ fz).map Fr.v) → w2.grownBy w3 u9.ownBlock → (T'.ownBlock = u9.ownBlock ∨ ∀ x, T'.ownBlock = some x → w2.heap.size ≤ x) → CutL w B p pg vf Tx fsx l T' (.bool R.2.1) (.int .i64 ((k + m : Nat) : Int)) w3) := fun w3 T' => HNX.out w2 w3 v' T' fz h2 h1 h5 h6 h7; have HO3 : Hid (w2.ownsRow B 23 1 u9 fsy.length (fsy.map Fr.v) ∧ B ≤ w2.heap.size) := HO2; clear h1 h2 h3 h4 h5 h6 h7 h8 h9 HO2)
          | (at_builtin; have _t := HN2; refine wpList_append_frs (by rfl) _ _ rfl B _ fsy rfl HO3.out.1 HO3.out.2 az cz fz rfl HZ.out.1 HZ.out.2.1 (by have := HZ.out.2.2; omega) ?_; intro T' w3 h1 h2 h3; have HE : Hid (CutL w B p pg vf Tx fsx l T' (.bool R.2.1) (.int .i64 ((k + m : Nat) : Int)) w3) := HN2.out w3 T' h1 h2 h3; clear h1 h2 h3 _t HN2))
        exact ⟨by rw [← hmI]; exact HE.out, by simp [intOf]; omega⟩
    · obtain rfl : k = l.length := by omega
      rw [List.take_length] at HAC ⊢
      have HA : Hid (∀ x : World, Calls Try.prog 10 #[] x fun e w' => e = .returned (.bool true) ∧ Below x.heap.size x w') := awake_any
      clear hk hlt
      have HSM : Hid (Calls Try.prog 14 #[Tx, u9] wr fun e w' => e = .returned (.bool true) ∧ ∃ n, w' = wr.drewN n) := by
        obtain ⟨Bx, hox⟩ := HST.out.1.owns
        exact same_told hox HAC.out.1.owns HST.out.1.all HAC.out.1.all (by rw [HX.out, HAC.out.2]) (by rw [HX.out]; exact frames_len l)
      have HW1 : Hid (∀ n, Calls Try.prog 15 #[.pointer (some ⟨p, 0, none⟩)] (wr.drewN n) fun e w' => e = .returned (.int .i64 ((frames l).2.2.length : Int)) ∧ ∃ m, w' = wr.drewN m) := fun n => (waiting_any B p vf _ _ _ (HST.out.2.1.1.drewN n)).mono (by rintro e w' ⟨rfl, y, rfl⟩; exact ⟨rfl, n + y, World.drewN_drewN _ _ _⟩)
      have HW2 : Hid (∀ n, Calls Try.prog 15 #[.pointer (some ⟨pg, 0, none⟩)] (wr.drewN n) fun e w' => e = .returned (.int .i64 ((frames l).2.2.length : Int)) ∧ ∃ m, w' = wr.drewN m) := fun n => (waiting_any B pg vg _ _ _ (HAC.out.1.fe.drewN n)).mono (by rintro e w' ⟨rfl, y, rfl⟩; exact ⟨rfl, n + y, World.drewN_drewN _ _ _⟩)
      have HBE : Hid (∀ n w9, Below (wr.drewN n).heap.size (wr.drewN n) w9 → Below B w w9) := fun n w9 h => (below_drewN HST.out.2.2 n).trans (h.mono (by have h1 := HST.out.2.2.size; have h2 := HB.out; show B ≤ wr.heap.size; omega))
      clear HST HAC
      generalize (frames l).2.2.length = NN at *
      generalize (frames l).2.1 = ok at *
      have tok : True := trivial
      have hoo : (ok == ok) = true := by simp
      go_wp2_with (first
        | (go_at_call 14; refine Calls.mono HSM.out ?_; rintro e w4 ⟨rfl, n4, hw4⟩; subst w4)
        | (go_at_call 15; have _t := tok; refine (HW1.out _).mono ?_; rintro e w5 ⟨rfl, n5, hw5⟩; subst w5; clear _t tok)
        | (go_at_call 15; refine (HW2.out _).mono ?_; rintro e w6 ⟨rfl, n6, hw6⟩; subst w6)
        | (go_at_call 10; refine (HA.out _).mono ?_; rintro e w9 ⟨rfl, hb9⟩))
      go_ret
      exact ⟨rfl, HBE.out _ _ hb9⟩
theorem frameCuts_walk (a0 : Option Addr) (cap0 : Nat) (l0 : List Nat) (a1 : Int) (w : World) (w0 : Came w a0 cap0 l0) (w1 : (Lit.int .i64 a1).wf = true) :
    Calls Try.prog 4 #[.slice a0 l0.length cap0, .int .i64 a1] w fun e w' => e = .returned (.bool true) ∧ Below w.heap.size w w' := by
  have hb := bd64 w1
  have h1 := w0.2
  by_cases h : 20000 < l0.length ∨ a1 < 1
  · exact cuts_odd a0 cap0 l0.length a1 w h (by unfold maxLen; omega)
  · obtain ⟨n, rfl⟩ : ∃ n : Nat, a1 = (n : Int) := ⟨a1.toNat, by omega⟩
    exact cuts_in a0 cap0 l0 n w w0.1 (by omega) (by omega) (by omega)
end Go.Proofs.Ythbomgjjdmogpaa
