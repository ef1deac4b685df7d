/- Saw. -/
import Derived.Test.YtnnljdnaipjoiaaSt
namespace Go.Proofs.Ytnnljdnaipjoiaa
set_option linter.unusedSimpArgs false
set_option linter.unusedVariables false
open Go.RowKit Go.MapKept
open Go.ChangeMaps (setBlock)
/-- While Saw runs, behind the copy of the topic. -/
def SwK (w w1 : World) (q : PK) (st nx : Int) (p : Nat) (v1 v2 v3 : Option Nat) (S : LS) (a : Option Addr) (ss : List Bs) (y : World) : Prop :=
  y.cell? ⟨w1.heap.size, 0, none⟩ = some (.string q.1) ∧ y.cell? ⟨w1.heap.size, 1, none⟩ = some (.int .i64 q.2) ∧ y.cell? ⟨w1.heap.size + 1, 0, none⟩ = some (.int .i64 st) ∧ y.cell? ⟨w1.heap.size + 1, 1, none⟩ = some (.int .i64 nx) ∧
  y.cell? ⟨p, 0, none⟩ = some (.map v1) ∧ y.cell? ⟨p, 1, none⟩ = some (.map v2) ∧ y.cell? ⟨p, 2, none⟩ = some (.map v3) ∧ LogIs y p v1 v2 v3 S ∧ BIn y a ss ∧ Below w.heap.size w y
theorem SwK.log {w w1 : World} {q : PK} {st nx : Int} {p : Nat} {v1 v2 v3 : Option Nat} {S : LS} {a : Option Addr} {ss : List Bs} {y : World} (h : SwK w w1 q st nx p v1 v2 v3 S a ss y) : LogIs y p v1 v2 v3 S := h.2.2.2.2.2.2.2.1
theorem SwK.of {w w1 y : World} {q : PK} {st nx : Int} {p : Nat} {v1 v2 v3 : Option Nat} {S : LS} {a : Option Addr} {ss : List Bs} (hl : LogIs w p v1 v2 v3 S) (hi : BIn w a ss) (h1 : Below w.heap.size w w1) (hb : Below (Fw0 w1 q st nx).heap.size (Fw0 w1 q st nx) y) : SwK w w1 q st nx p v1 v2 v3 S a ss y := by
  obtain ⟨c0, c1, c2, c3⟩ := Fw0.cells w1 q st nx
  have hf := fun {o : Nat} {v : Value} {c : Nat} (hc : (Fw0 w1 q st nx).cell? ⟨c, o, none⟩ = some v) => (hb.cell (World.block_lt_of_cell? _ _ hc)).trans hc
  have e1 : Below w1.heap.size w1 (Fw0 w1 q st nx) := Fw0.below w1 q st nx
  have e2 : Below w.heap.size w y := h1.trans ((e1.trans (hb.mono e1.size)).mono h1.size)
  have hl2 := hl.below e2
  exact ⟨hf c0, hf c1, hf c2, hf c3, hl2.cells.1, hl2.cells.2.1, hl2.cells.2.2.1, hl2, hi.below e2, e2⟩
set_option maxHeartbeats 1600000 in
set_option maxRecDepth 100000 in
theorem saw_falls (p : Nat) (v1 v2 v3 : Option Nat) (S : LS) (tp : ByteArray) (pt st nx fr : Int) (a : Option Addr) (cap : Nat) (ss : List Bs) (w : World) (hl : LogIs w p v1 v2 v3 S) (hi : BIn w a ss) (ht : tp.size ≤ 281474976710656) (hN : In64 fr ∧ In64 st ∧ In64 nx) (h1 : fallsB S (tp, pt) st nx = true) :
    Calls Try.prog 11 #[.pointer (some ⟨p, 0, none⟩), .string tp, .int .i64 pt, .int .i64 st, .int .i64 nx, .int .i64 fr, .slice a ss.length cap] w fun e w' => SawP w p v1 v2 v3 (saw S (tp, pt) st nx fr (bsOf ss)) e w' := by
  have HYL : Hid (∀ w1, Below w.heap.size w w1 → Hid (∀ y, Below (Fw0 w1 (tp, pt) st nx).heap.size (Fw0 w1 (tp, pt) st nx) y → SwK w w1 (tp, pt) st nx p v1 v2 v3 S a ss y)) := fun w1 h1 y hb => SwK.of hl hi h1 hb
  have HCF : Hid (∀ y, LogIs y p v1 v2 v3 S → Calls Try.prog 26 #[.pointer (some ⟨p, 0, none⟩), .agg #[.string tp, .int .i64 pt], .agg #[.int .i64 st, .int .i64 nx]] y fun e w' => e = .returned (.bool (fallsB S (tp, pt) st nx)) ∧ Below y.heap.size y w') := fun y h => falls_any p v1 v2 v3 S (tp, pt) st nx y h
  have HCP : Hid (∀ y, BIn y a ss → Calls Try.prog 27 #[.slice a ss.length cap, .int .i64 fr, .agg #[.int .i64 st, .int .i64 nx]] y fun e w' => e = .returned (.bool (placedB (bsOf ss) fr st nx)) ∧ Below y.heap.size y w') := fun y h => placed_any a cap ss fr st nx y h hN.1 hN.2.1 hN.2.2
  have HE : Hid (∀ y, Below w.heap.size w y → SawP w p v1 v2 v3 (saw S (tp, pt) st nx fr (bsOf ss)) (.returned (.int .i64 1)) y) := fun y hb => SawP.stay hl (by unfold saw; rw [if_pos h1]) hb
  rw [h1] at HCF
  clear HCP
  generalize SawP w p v1 v2 v3 (saw S (tp, pt) st nx fr (bsOf ss)) = AP at *
  clear hl hi hN
  go_enter Try.func11, Try.ntmps11
  go_wp2_with (first
    | (go_at_call 25; refine (clone_any _ _ ht).mono ?_; rintro e w1 ⟨rfl, hb1⟩; have HK := HYL.out w1 (by exact ⟨hb1.os, hb1.tape, hb1.output, hb1.size, hb1.block⟩); have hY := Below.refl (Fw0 w1 (tp, pt) st nx).heap.size (Fw0 w1 (tp, pt) st nx); clear hb1)
    | (go_at_call 26; refine (HCF.out _ (HK.out _ hY).log).mono ?_; rintro e w2 ⟨rfl, hb2⟩; replace hY := Below.trans hY (hb2.mono hY.size); obtain ⟨c0, c1, c2, c3, c4, c5, c6, hlg, hin, hbw⟩ := HK.out _ hY))
  exact HE.out _ hbw
set_option maxHeartbeats 1600000 in
set_option maxRecDepth 100000 in
theorem saw_placed (p : Nat) (v1 v2 v3 : Option Nat) (S : LS) (tp : ByteArray) (pt st nx fr : Int) (a : Option Addr) (cap : Nat) (ss : List Bs) (w : World) (hl : LogIs w p v1 v2 v3 S) (hi : BIn w a ss) (ht : tp.size ≤ 281474976710656) (hN : In64 fr ∧ In64 st ∧ In64 nx) (h1 : fallsB S (tp, pt) st nx = false) (h2 : placedB (bsOf ss) fr st nx = false) :
    Calls Try.prog 11 #[.pointer (some ⟨p, 0, none⟩), .string tp, .int .i64 pt, .int .i64 st, .int .i64 nx, .int .i64 fr, .slice a ss.length cap] w fun e w' => SawP w p v1 v2 v3 (saw S (tp, pt) st nx fr (bsOf ss)) e w' := by
  have HYL : Hid (∀ w1, Below w.heap.size w w1 → Hid (∀ y, Below (Fw0 w1 (tp, pt) st nx).heap.size (Fw0 w1 (tp, pt) st nx) y → SwK w w1 (tp, pt) st nx p v1 v2 v3 S a ss y)) := fun w1 h1 y hb => SwK.of hl hi h1 hb
  have HCF : Hid (∀ y, LogIs y p v1 v2 v3 S → Calls Try.prog 26 #[.pointer (some ⟨p, 0, none⟩), .agg #[.string tp, .int .i64 pt], .agg #[.int .i64 st, .int .i64 nx]] y fun e w' => e = .returned (.bool (fallsB S (tp, pt) st nx)) ∧ Below y.heap.size y w') := fun y h => falls_any p v1 v2 v3 S (tp, pt) st nx y h
  have HCP : Hid (∀ y, BIn y a ss → Calls Try.prog 27 #[.slice a ss.length cap, .int .i64 fr, .agg #[.int .i64 st, .int .i64 nx]] y fun e w' => e = .returned (.bool (placedB (bsOf ss) fr st nx)) ∧ Below y.heap.size y w') := fun y h => placed_any a cap ss fr st nx y h hN.1 hN.2.1 hN.2.2
  have HE : Hid (∀ y, Below w.heap.size w y → SawP w p v1 v2 v3 (saw S (tp, pt) st nx fr (bsOf ss)) (.returned (.int .i64 2)) y) := fun y hb => SawP.stay hl (by unfold saw; rw [if_neg (by rw [h1]; decide), if_pos h2]) hb
  rw [h1] at HCF
  rw [h2] at HCP
  generalize SawP w p v1 v2 v3 (saw S (tp, pt) st nx fr (bsOf ss)) = AP at *
  clear hl hi hN
  go_enter Try.func11, Try.ntmps11
  go_wp2_with (first
    | (go_at_call 25; refine (clone_any _ _ ht).mono ?_; rintro e w1 ⟨rfl, hb1⟩; have HK := HYL.out w1 (by exact ⟨hb1.os, hb1.tape, hb1.output, hb1.size, hb1.block⟩); have hY := Below.refl (Fw0 w1 (tp, pt) st nx).heap.size (Fw0 w1 (tp, pt) st nx); clear hb1)
    | (go_at_call 26; refine (HCF.out _ (HK.out _ hY).log).mono ?_; rintro e w2 ⟨rfl, hb2⟩; replace hY := Below.trans hY (hb2.mono hY.size); obtain ⟨c0, c1, c2, c3, c4, c5, c6, hlg, hin, hbw⟩ := HK.out _ hY)
    | (go_at_call 27; refine (HCP.out _ hin).mono ?_; rintro e w3 ⟨rfl, hb3⟩; replace hY := Below.trans hY (hb3.mono hY.size); clear c0 c1 c2 c3 c4 c5 c6 hlg hin hbw; obtain ⟨c0, c1, c2, c3, c4, c5, c6, hlg, hin, hbw⟩ := HK.out _ hY))
  exact HE.out _ hbw
set_option maxHeartbeats 1600000 in
set_option maxRecDepth 100000 in
theorem saw_changed (p : Nat) (v1 v2 v3 : Option Nat) (S : LS) (tp : ByteArray) (pt st nx fr : Int) (a : Option Addr) (cap : Nat) (ss : List Bs) (w : World) (hl : LogIs w p v1 v2 v3 S) (hi : BIn w a ss) (ht : tp.size ≤ 281474976710656) (hN : In64 fr ∧ In64 st ∧ In64 nx) (h1 : fallsB S (tp, pt) st nx = false) (h2 : placedB (bsOf ss) fr st nx = true) (h3 : agrs sameR S.rc (recKs (tp, pt) (bsOf ss)) (fun _ => none) = none) :
    Calls Try.prog 11 #[.pointer (some ⟨p, 0, none⟩), .string tp, .int .i64 pt, .int .i64 st, .int .i64 nx, .int .i64 fr, .slice a ss.length cap] w fun e w' => SawP w p v1 v2 v3 (saw S (tp, pt) st nx fr (bsOf ss)) e w' := by
  have HYL : Hid (∀ w1, Below w.heap.size w w1 → Hid (∀ y, Below (Fw0 w1 (tp, pt) st nx).heap.size (Fw0 w1 (tp, pt) st nx) y → SwK w w1 (tp, pt) st nx p v1 v2 v3 S a ss y)) := fun w1 h1 y hb => SwK.of hl hi h1 hb
  have HCF : Hid (∀ y, LogIs y p v1 v2 v3 S → Calls Try.prog 26 #[.pointer (some ⟨p, 0, none⟩), .agg #[.string tp, .int .i64 pt], .agg #[.int .i64 st, .int .i64 nx]] y fun e w' => e = .returned (.bool (fallsB S (tp, pt) st nx)) ∧ Below y.heap.size y w') := fun y h => falls_any p v1 v2 v3 S (tp, pt) st nx y h
  have HCP : Hid (∀ y, BIn y a ss → Calls Try.prog 27 #[.slice a ss.length cap, .int .i64 fr, .agg #[.int .i64 st, .int .i64 nx]] y fun e w' => e = .returned (.bool (placedB (bsOf ss) fr st nx)) ∧ Below y.heap.size y w') := fun y h => placed_any a cap ss fr st nx y h hN.1 hN.2.1 hN.2.2
  have HE : Hid (∀ y, Below w.heap.size w y → SawP w p v1 v2 v3 (saw S (tp, pt) st nx fr (bsOf ss)) (.returned (.int .i64 3)) y) := fun y hb => SawP.stay hl (by unfold saw; rw [if_neg (by rw [h1]; decide), if_neg (by rw [h2]; decide), h3]) hb
  rw [h1] at HCF
  rw [h2] at HCP
  have HCR : Hid (∀ y, LogIs y p v1 v2 v3 S → BIn y a ss → Calls Try.prog 28 #[.pointer (some ⟨p, 0, none⟩), .agg #[.string tp, .int .i64 pt], .slice a ss.length cap] y fun e w' => e = .returned (.tuple #[.map none, .bool false]) ∧ Below y.heap.size y w') := fun y hl hi => (newRecords_any p v1 v2 v3 S (tp, pt) a cap ss y hl hi).mono fun e w' ⟨hb, h⟩ => by
    rcases h with ⟨bf, F, e1, _⟩ | ⟨_, e2⟩
    · rw [h3] at e1; cases e1
    · exact ⟨e2, hb⟩
  generalize SawP w p v1 v2 v3 (saw S (tp, pt) st nx fr (bsOf ss)) = AP at *
  clear hl hi hN
  go_enter Try.func11, Try.ntmps11
  go_wp2_with (first
    | (go_at_call 25; refine (clone_any _ _ ht).mono ?_; rintro e w1 ⟨rfl, hb1⟩; have HK := HYL.out w1 (by exact ⟨hb1.os, hb1.tape, hb1.output, hb1.size, hb1.block⟩); have hY := Below.refl (Fw0 w1 (tp, pt) st nx).heap.size (Fw0 w1 (tp, pt) st nx); clear hb1)
    | (go_at_call 26; refine (HCF.out _ (HK.out _ hY).log).mono ?_; rintro e w2 ⟨rfl, hb2⟩; replace hY := Below.trans hY (hb2.mono hY.size); obtain ⟨c0, c1, c2, c3, c4, c5, c6, hlg, hin, hbw⟩ := HK.out _ hY)
    | (go_at_call 27; refine (HCP.out _ hin).mono ?_; rintro e w3 ⟨rfl, hb3⟩; replace hY := Below.trans hY (hb3.mono hY.size); clear c0 c1 c2 c3 c4 c5 c6 hlg hin hbw; obtain ⟨c0, c1, c2, c3, c4, c5, c6, hlg, hin, hbw⟩ := HK.out _ hY)
    | (go_at_call 28; refine (HCR.out _ hlg hin).mono ?_; rintro e w4 ⟨rfl, hb4⟩; replace hY := Below.trans hY (hb4.mono hY.size); clear c0 c1 c2 c3 c4 c5 c6 hlg hin hbw; obtain ⟨c0, c1, c2, c3, c4, c5, c6, hlg, hin, hbw⟩ := HK.out _ hY))
  exact HE.out _ hbw
set_option maxHeartbeats 1600000 in
set_option maxRecDepth 100000 in
theorem saw_twice (p : Nat) (v1 v2 v3 : Option Nat) (S : LS) (tp : ByteArray) (pt st nx fr : Int) (a : Option Addr) (cap : Nat) (ss : List Bs) (w : World) (hl : LogIs w p v1 v2 v3 S) (hi : BIn w a ss) (ht : tp.size ≤ 281474976710656) (hN : In64 fr ∧ In64 st ∧ In64 nx) (h1 : fallsB S (tp, pt) st nx = false) (h2 : placedB (bsOf ss) fr st nx = true) (F : SK → Option Rc) (h3 : agrs sameR S.rc (recKs (tp, pt) (bsOf ss)) (fun _ => none) = some F) (h4 : agrs sameI S.bs (batKs (tp, pt) (bsOf ss)) (fun _ => none) = none) :
    Calls Try.prog 11 #[.pointer (some ⟨p, 0, none⟩), .string tp, .int .i64 pt, .int .i64 st, .int .i64 nx, .int .i64 fr, .slice a ss.length cap] w fun e w' => SawP w p v1 v2 v3 (saw S (tp, pt) st nx fr (bsOf ss)) e w' := by
  have HYL : Hid (∀ w1, Below w.heap.size w w1 → Hid (∀ y, Below (Fw0 w1 (tp, pt) st nx).heap.size (Fw0 w1 (tp, pt) st nx) y → SwK w w1 (tp, pt) st nx p v1 v2 v3 S a ss y)) := fun w1 h1 y hb => SwK.of hl hi h1 hb
  have HCF : Hid (∀ y, LogIs y p v1 v2 v3 S → Calls Try.prog 26 #[.pointer (some ⟨p, 0, none⟩), .agg #[.string tp, .int .i64 pt], .agg #[.int .i64 st, .int .i64 nx]] y fun e w' => e = .returned (.bool (fallsB S (tp, pt) st nx)) ∧ Below y.heap.size y w') := fun y h => falls_any p v1 v2 v3 S (tp, pt) st nx y h
  have HCP : Hid (∀ y, BIn y a ss → Calls Try.prog 27 #[.slice a ss.length cap, .int .i64 fr, .agg #[.int .i64 st, .int .i64 nx]] y fun e w' => e = .returned (.bool (placedB (bsOf ss) fr st nx)) ∧ Below y.heap.size y w') := fun y h => placed_any a cap ss fr st nx y h hN.1 hN.2.1 hN.2.2
  have HE : Hid (∀ y, Below w.heap.size w y → SawP w p v1 v2 v3 (saw S (tp, pt) st nx fr (bsOf ss)) (.returned (.int .i64 4)) y) := fun y hb => SawP.stay hl (by unfold saw; rw [if_neg (by rw [h1]; decide), if_neg (by rw [h2]; decide), h3]; simp only; rw [h4]) hb
  rw [h1] at HCF
  rw [h2] at HCP
  have HCR : Hid (∀ y, LogIs y p v1 v2 v3 S → BIn y a ss → Calls Try.prog 28 #[.pointer (some ⟨p, 0, none⟩), .agg #[.string tp, .int .i64 pt], .slice a ss.length cap] y fun e w' => ∃ bf, e = .returned (.tuple #[.map (some bf), .bool true]) ∧ MS w' bf F ∧ y.heap.size ≤ bf ∧ Below y.heap.size y w') := fun y hl hi => (newRecords_any p v1 v2 v3 S (tp, pt) a cap ss y hl hi).mono fun e w' ⟨hb, h⟩ => by
    rcases h with ⟨bf, F', e1, e2, e3, e4⟩ | ⟨e1, _⟩
    · rw [h3] at e1; injection e1 with e1; subst e1; exact ⟨bf, e2, e3, e4, hb⟩
    · rw [h3] at e1; cases e1
  have HCB : Hid (∀ y, LogIs y p v1 v2 v3 S → BIn y a ss → Calls Try.prog 29 #[.pointer (some ⟨p, 0, none⟩), .agg #[.string tp, .int .i64 pt], .slice a ss.length cap] y fun e w' => e = .returned (.tuple #[.map none, .bool false]) ∧ Below y.heap.size y w') := fun y hl hi => (newBases_any p v1 v2 v3 S (tp, pt) a cap ss y hl hi).mono fun e w' ⟨hb, h⟩ => by
    rcases h with ⟨bf, F, e1, _⟩ | ⟨_, e2⟩
    · rw [h4] at e1; cases e1
    · exact ⟨e2, hb⟩
  generalize SawP w p v1 v2 v3 (saw S (tp, pt) st nx fr (bsOf ss)) = AP at *
  clear hl hi hN
  go_enter Try.func11, Try.ntmps11
  go_wp2_with (first
    | (go_at_call 25; refine (clone_any _ _ ht).mono ?_; rintro e w1 ⟨rfl, hb1⟩; have HK := HYL.out w1 (by exact ⟨hb1.os, hb1.tape, hb1.output, hb1.size, hb1.block⟩); have hY := Below.refl (Fw0 w1 (tp, pt) st nx).heap.size (Fw0 w1 (tp, pt) st nx); clear hb1)
    | (go_at_call 26; refine (HCF.out _ (HK.out _ hY).log).mono ?_; rintro e w2 ⟨rfl, hb2⟩; replace hY := Below.trans hY (hb2.mono hY.size); obtain ⟨c0, c1, c2, c3, c4, c5, c6, hlg, hin, hbw⟩ := HK.out _ hY)
    | (go_at_call 27; refine (HCP.out _ hin).mono ?_; rintro e w3 ⟨rfl, hb3⟩; replace hY := Below.trans hY (hb3.mono hY.size); clear c0 c1 c2 c3 c4 c5 c6 hlg hin hbw; obtain ⟨c0, c1, c2, c3, c4, c5, c6, hlg, hin, hbw⟩ := HK.out _ hY)
    | (go_at_call 28; refine (HCR.out _ hlg hin).mono ?_; rintro e w4 ⟨bf, rfl, hmf, hbf, hb4⟩; replace hY := Below.trans hY (hb4.mono hY.size); have hfl := hlg; clear c0 c1 c2 c3 c4 c5 c6 hlg hin hbw; obtain ⟨c0, c1, c2, c3, c4, c5, c6, hlg, hin, hbw⟩ := HK.out _ hY)
    | (go_at_call 29; refine (HCB.out _ hlg hin).mono ?_; rintro e w5 ⟨rfl, hb5⟩; replace hY := Below.trans hY (hb5.mono hY.size); clear c0 c1 c2 c3 c4 c5 c6 hlg hin hbw; obtain ⟨c0, c1, c2, c3, c4, c5, c6, hlg, hin, hbw⟩ := HK.out _ hY))
  exact HE.out _ hbw
theorem MS_below {y z : World} {b : Nat} {F : SK → Option Rc} (h : MS y b F) (hb : Below y.heap.size y z) : MS z b F := by
  obtain ⟨n, h⟩ := h
  exact ⟨n, h.below hb⟩
set_option maxHeartbeats 1600000 in
set_option maxRecDepth 100000 in
theorem saw_right (p : Nat) (v1 v2 v3 : Option Nat) (S : LS) (tp : ByteArray) (pt st nx fr : Int) (a : Option Addr) (cap : Nat) (ss : List Bs) (w : World) (hl : LogIs w p v1 v2 v3 S) (hi : BIn w a ss) (ht : tp.size ≤ 281474976710656) (hN : In64 fr ∧ In64 st ∧ In64 nx) (h1 : fallsB S (tp, pt) st nx = false) (h2 : placedB (bsOf ss) fr st nx = true) (F : SK → Option Rc) (h3 : agrs sameR S.rc (recKs (tp, pt) (bsOf ss)) (fun _ => none) = some F) (G : TK → Option Int) (h4 : agrs sameI S.bs (batKs (tp, pt) (bsOf ss)) (fun _ => none) = some G) :
    Calls Try.prog 11 #[.pointer (some ⟨p, 0, none⟩), .string tp, .int .i64 pt, .int .i64 st, .int .i64 nx, .int .i64 fr, .slice a ss.length cap] w fun e w' => SawP w p v1 v2 v3 (saw S (tp, pt) st nx fr (bsOf ss)) e w' := by
  have HYL : Hid (∀ w1, Below w.heap.size w w1 → Hid (∀ y, Below (Fw0 w1 (tp, pt) st nx).heap.size (Fw0 w1 (tp, pt) st nx) y → SwK w w1 (tp, pt) st nx p v1 v2 v3 S a ss y)) := fun w1 h1 y hb => SwK.of hl hi h1 hb
  have HCF : Hid (∀ y, LogIs y p v1 v2 v3 S → Calls Try.prog 26 #[.pointer (some ⟨p, 0, none⟩), .agg #[.string tp, .int .i64 pt], .agg #[.int .i64 st, .int .i64 nx]] y fun e w' => e = .returned (.bool (fallsB S (tp, pt) st nx)) ∧ Below y.heap.size y w') := fun y h => falls_any p v1 v2 v3 S (tp, pt) st nx y h
  have HCP : Hid (∀ y, BIn y a ss → Calls Try.prog 27 #[.slice a ss.length cap, .int .i64 fr, .agg #[.int .i64 st, .int .i64 nx]] y fun e w' => e = .returned (.bool (placedB (bsOf ss) fr st nx)) ∧ Below y.heap.size y w') := fun y h => placed_any a cap ss fr st nx y h hN.1 hN.2.1 hN.2.2
  rw [h1] at HCF
  rw [h2] at HCP
  have HCR : Hid (∀ y, LogIs y p v1 v2 v3 S → BIn y a ss → Calls Try.prog 28 #[.pointer (some ⟨p, 0, none⟩), .agg #[.string tp, .int .i64 pt], .slice a ss.length cap] y fun e w' => ∃ bf, e = .returned (.tuple #[.map (some bf), .bool true]) ∧ MS w' bf F ∧ y.heap.size ≤ bf ∧ Below y.heap.size y w') := fun y hl hi => (newRecords_any p v1 v2 v3 S (tp, pt) a cap ss y hl hi).mono fun e w' ⟨hb, h⟩ => by
    rcases h with ⟨bf, F', e1, e2, e3, e4⟩ | ⟨e1, _⟩
    · rw [h3] at e1; injection e1 with e1; subst e1; exact ⟨bf, e2, e3, e4, hb⟩
    · rw [h3] at e1; cases e1
  have HCB : Hid (∀ y, LogIs y p v1 v2 v3 S → BIn y a ss → Calls Try.prog 29 #[.pointer (some ⟨p, 0, none⟩), .agg #[.string tp, .int .i64 pt], .slice a ss.length cap] y fun e w' => ∃ bf, e = .returned (.tuple #[.map (some bf), .bool true]) ∧ MT w' bf G ∧ y.heap.size ≤ bf ∧ Below y.heap.size y w') := fun y hl hi => (newBases_any p v1 v2 v3 S (tp, pt) a cap ss y hl hi).mono fun e w' ⟨hb, h⟩ => by
    rcases h with ⟨bf, F', e1, e2, e3, e4⟩ | ⟨e1, _⟩
    · rw [h4] at e1; injection e1 with e1; subst e1; exact ⟨bf, e2, e3, e4, hb⟩
    · rw [h4] at e1; cases e1
  have HE : Hid (∀ bf bb u1 u2 u3 y, Sw5 w (logE p v1 v2 v3) p u1 u2 u3 ⟨fun x => if x = (tp, pt) then some (st, nx) else S.bn x, fun x => (F x).or (S.rc x), fun x => (G x).or (S.bs x)⟩ bf bb F G y → SawP w p v1 v2 v3 (saw S (tp, pt) st nx fr (bsOf ss)) (.returned (.int .i64 0)) y) := fun bf bb u1 u2 u3 y h => h.done (by
    unfold saw
    rw [if_neg (by rw [h1]; decide), if_neg (by rw [h2]; decide), h3]
    simp only
    rw [h4])
  generalize SawP w p v1 v2 v3 (saw S (tp, pt) st nx fr (bsOf ss)) = AP at *
  clear hl hi h1 h2 h3 h4
  go_enter Try.func11, Try.ntmps11
  go_wp2_with (first
    | (go_at_call 25; refine (clone_any _ _ ht).mono ?_; rintro e w1 ⟨rfl, hb1⟩; have HK := HYL.out w1 (by exact ⟨hb1.os, hb1.tape, hb1.output, hb1.size, hb1.block⟩); have hY := Below.refl (Fw0 w1 (tp, pt) st nx).heap.size (Fw0 w1 (tp, pt) st nx); clear hb1)
    | (go_at_call 26; refine (HCF.out _ (HK.out _ hY).log).mono ?_; rintro e w2 ⟨rfl, hb2⟩; replace hY := Below.trans hY (hb2.mono hY.size); obtain ⟨c0, c1, c2, c3, c4, c5, c6, hlg, hin, hbw⟩ := HK.out _ hY)
    | (go_at_call 27; refine (HCP.out _ hin).mono ?_; rintro e w3 ⟨rfl, hb3⟩; replace hY := Below.trans hY (hb3.mono hY.size); clear c0 c1 c2 c3 c4 c5 c6 hlg hin hbw; obtain ⟨c0, c1, c2, c3, c4, c5, c6, hlg, hin, hbw⟩ := HK.out _ hY)
    | (go_at_call 28; refine (HCR.out _ hlg hin).mono ?_; rintro e w4 ⟨bf, rfl, hmf, hbf, hb4⟩; replace hY := Below.trans hY (hb4.mono hY.size); have hfl := hlg; clear c0 c1 c2 c3 c4 c5 c6 hlg hin hbw; obtain ⟨c0, c1, c2, c3, c4, c5, c6, hlg, hin, hbw⟩ := HK.out _ hY)
    | (go_at_call 29; refine (HCB.out _ hlg hin).mono ?_; rintro e w5 ⟨bb, rfl, hmt, hbb, hb5⟩; have hmf5 := MS_below hmf hb5; replace hY := Below.trans hY (hb5.mono hY.size); have hbl := hlg; clear c0 c1 c2 c3 c4 c5 c6 hlg hin hbw; obtain ⟨c0, c1, c2, c3, c4, c5, c6, hlg, hin, hbw⟩ := HK.out _ hY))
  have hS5 : Sw5 w (logE p v1 v2 v3) p v1 v2 v3 S bf bb F G w5 := Sw5.start hfl hbl hbf hbb hlg hmf5 hmt hbw
  have HS5 : Hid (Sw5 w (logE p v1 v2 v3) p v1 v2 v3 S bf bb F G w5) := hS5
  have HX : Hid (∀ x, w5.grownBy x v1 → x.cell? ⟨p, 0, none⟩ = some (.map v1) ∧ x.cell? ⟨w1.heap.size, 0, none⟩ = some (.string tp) ∧ x.cell? ⟨w1.heap.size, 1, none⟩ = some (.int .i64 pt) ∧ x.cell? ⟨w1.heap.size + 1, 0, none⟩ = some (.int .i64 st) ∧ x.cell? ⟨w1.heap.size + 1, 1, none⟩ = some (.int .i64 nx)) := fun x hg => by
    have hm := hS5.log.m1.isMap
    exact ⟨cell_kept c4 hg hm, cell_kept c0 hg hm, cell_kept c1 hg hm, cell_kept c2 hg hm, cell_kept c3 hg hm⟩
  have hmade := MapIs.made (mk := mkP) w5.drew
  obtain ⟨es, cl, hrun, hEnt, hsz⟩ := hmade.store kbP Try.underlying55 (tp, pt) (vB (st, nx))
  have hins : (Instr.mapUpdate 55 (.map (some w5.heap.size)) (.agg #[.string tp, .int .i64 pt]) (.agg #[.int .i64 st, .int .i64 nx])).run Try.prog (w5.alloc (.map #[] 0)).drew = .ok () (setBlock (w5.alloc (.map #[] 0)).drew w5.heap.size (.map es cl)) := hrun (w5.alloc (.map #[] 0)).drew rfl
  obtain ⟨g1, g2, g3⟩ := setBlock_map (w5.alloc (.map #[] 0)).drew w5.heap.size es cl (by show w5.heap.size < (w5.alloc (.map #[] 0)).heap.size; simp)
  have hb6 : Below w5.heap.size w5 (w5.alloc (.map #[] 0)).drew := below_drewN (below_box (w := w5) _) 1
  have hb7 : Below w5.heap.size w5 (setBlock (w5.alloc (.map #[] 0)).drew w5.heap.size (.map es cl)) := ⟨hb6.os, hb6.tape, hb6.output, Nat.le_trans hb6.size g1.size, fun k hk => (g1.block k (Nat.lt_of_lt_of_le hk hb6.size) (fun e => by injection e with e; omega)).trans (hb6.block k hk)⟩
  have hm7 : MapIs (setBlock (w5.alloc (.map #[] 0)).drew w5.heap.size (.map es cl)) w5.heap.size mkP (put (fun _ => none) (tp, pt) (vB (st, nx))) (0 + 1) := ⟨es, cl, g3, hEnt, hsz⟩
  have HB5 : Hid (Below w5.heap.size w5 w5.drew ∧ Below w5.heap.size w5 (w5.alloc (.map #[] 0)).drew) := ⟨below_drewN (Below.refl _ _) 1, hb6⟩
  have hne5 : v1 ≠ some w5.heap.size := fun e => by have := hlg.m1.lt _ e; omega
  have hmm := @run_makeMap Try.prog
  obtain ⟨w7, HW7⟩ : ∃ w7, Hid (setBlock (w5.alloc (.map #[] 0)).drew w5.heap.size (.map es cl) = w7) := ⟨_, rfl⟩
  rw [HW7.out] at hins hb7 hm7
  clear HW7 g1 g2 g3 hEnt hsz hrun hmade
  have hS7 := HS5.out.below hb7
  have HC30 : Hid _ := hS7.call30 hm7 hne5
  have HB7 : Hid (Below w5.heap.size w5 w7) := hb7
  clear hm7 hb7 hS5 hmf hmt hmf5 hfl hbl hlg hin hbw c0 c1 c2 c3 c4 c5 c6 HK HYL HCF HCP HCR HCB hS7 hb6 hb2 hb3 hb4 hb5 hY
  refine wp_region_lat (fun x => x.cell? ⟨p, 0, none⟩ = some (.map v1) ∧ x.cell? ⟨w1.heap.size, 0, none⟩ = some (.string tp) ∧ x.cell? ⟨w1.heap.size, 1, none⟩ = some (.int .i64 pt) ∧ x.cell? ⟨w1.heap.size + 1, 0, none⟩ = some (.int .i64 st) ∧ x.cell? ⟨w1.heap.size + 1, 1, none⟩ = some (.int .i64 nx)) 13 (by kernel_rfl) (HX.out w5.drew (grown_below HB5.out.1 _)) (fun hHeld => ?_)
  refine lat_take 0 (v := ?_) rfl (by kernel_rfl) (by kernel_rfl) (by kernel_rfl) (by kernel_rfl) (fun _ _ _ h => h) (by rfl) ?_ (by assumption) ?_
  rotate_left
  · (intro w hSw; (try dsimp only at hSw); go_simp <;> with_reducible rfl)
  try simp only [Act.put, List.setIfInBounds_toArray, List.set_cons_zero, List.set_cons_succ]
  refine lat_take 1 (v := ?_) rfl (by kernel_rfl) (by kernel_rfl) (by kernel_rfl) (by kernel_rfl) (fun _ _ _ h => h) (by rfl) ?_ (by assumption) ?_
  rotate_left
  · (intro w hSw; (try dsimp only at hSw); go_simp <;> with_reducible rfl)
  try simp only [Act.put, List.setIfInBounds_toArray, List.set_cons_zero, List.set_cons_succ]
  refine lat_take 2 (v := ?_) rfl (by kernel_rfl) (by kernel_rfl) (by kernel_rfl) (by kernel_rfl) (fun _ _ _ h => h) (by rfl) ?_ (by assumption) ?_
  rotate_left
  · (intro w hSw; (try dsimp only at hSw); go_simp <;> with_reducible rfl)
  try simp only [Act.put, List.setIfInBounds_toArray, List.set_cons_zero, List.set_cons_succ]
  refine lat_take 3 (v := ?_) rfl (by kernel_rfl) (by kernel_rfl) (by kernel_rfl) (by kernel_rfl) (fun _ _ _ h => h) (by rfl) ?_ (by assumption) ?_
  rotate_left
  · (intro w hSw; (try dsimp only at hSw); go_simp <;> with_reducible rfl)
  try simp only [Act.put, List.setIfInBounds_toArray, List.set_cons_zero, List.set_cons_succ]
  refine lat_take 4 (v := ?_) rfl (by kernel_rfl) (by kernel_rfl) (by kernel_rfl) (by kernel_rfl) (fun _ _ _ h => h) (by rfl) ?_ (by assumption) ?_
  rotate_left
  · (intro w hSw; (try dsimp only at hSw); go_simp <;> with_reducible rfl)
  try simp only [Act.put, List.setIfInBounds_toArray, List.set_cons_zero, List.set_cons_succ]
  refine lat_take 6 (v := ?_) rfl (by kernel_rfl) (by kernel_rfl) (by kernel_rfl) (by kernel_rfl) (fun _ _ _ h => h) (by rfl) ?_ (by assumption) ?_
  rotate_left
  · (intro w hSw; (try dsimp only at hSw); go_simp <;> with_reducible rfl)
  try simp only [Act.put, List.setIfInBounds_toArray, List.set_cons_zero, List.set_cons_succ]
  refine lat_take 7 (v := ?_) rfl (by kernel_rfl) (by kernel_rfl) (by kernel_rfl) (by kernel_rfl) (fun _ _ _ h => h) (by rfl) ?_ (by assumption) ?_
  rotate_left
  · (intro w hSw; (try dsimp only at hSw); go_simp <;> with_reducible rfl)
  try simp only [Act.put, List.setIfInBounds_toArray, List.set_cons_zero, List.set_cons_succ]
  refine lat_one 5 rfl (by kernel_rfl) (by decide) (by rfl) (fun K hK => ?_)
  go_simp
  refine hK.out _ _ (HX.out (w5.alloc (.map #[] 0)).drew (grown_below HB5.out.2 _)) (fun hHeld2 => ?_)
  clear hK hHeld
  try simp only [Act.put, List.setIfInBounds_toArray, List.set_cons_zero, List.set_cons_succ]
  refine lat_one 8 rfl (by kernel_rfl) (by decide) (by rfl) (fun K hK => ?_)
  go_simp
  refine hK.out _ _ (HX.out w7 (grown_below HB7.out _)) (fun hHeld3 => ?_)
  clear hK hHeld2
  try simp only [Act.put, List.setIfInBounds_toArray, List.set_cons_zero, List.set_cons_succ]
  refine lat_take 9 (v := ?_) rfl (by kernel_rfl) (by kernel_rfl) (by kernel_rfl) (by kernel_rfl) (fun _ _ _ h => h) (by rfl) ?_ (by assumption) ?_
  rotate_left
  · (intro w hSw; (try dsimp only at hSw); go_simp <;> with_reducible rfl)
  try simp only [Act.put, List.setIfInBounds_toArray, List.set_cons_zero, List.set_cons_succ]
  refine lat_one 10 rfl (by kernel_rfl) (by decide) (by rfl) (fun K hK => ?_)
  go_simp
  refine Calls.mono HC30.out ?_
  rintro e z ⟨bd, rfl, hzb, hzg, hS8⟩
  dsimp only
  refine hK.out _ _ (HX.out z (grown_trans (grown_below HB7.out _) hzg)) (fun hHeld4 => ?_)
  clear hK hHeld3
  try simp only [Act.put, List.setIfInBounds_toArray, List.set_cons_zero, List.set_cons_succ]
  refine lat_take 11 (v := ?_) rfl (by kernel_rfl) (by kernel_rfl) (by kernel_rfl) (by kernel_rfl) (fun _ _ _ h => h) (by rfl) ?_ (by assumption) ?_
  rotate_left
  · (intro w hSw; (try dsimp only at hSw); go_simp <;> with_reducible rfl)
  try simp only [Act.put, List.setIfInBounds_toArray, List.set_cons_zero, List.set_cons_succ]
  refine lat_take 12 (v := ?_) rfl (by kernel_rfl) (by kernel_rfl) (by kernel_rfl) (by kernel_rfl) (fun _ _ _ h => h) (by rfl) ?_ (by assumption) ?_
  rotate_left
  · (intro w hSw; (try dsimp only at hSw); go_simp <;> with_reducible rfl)
  try simp only [Act.put, List.setIfInBounds_toArray, List.set_cons_zero, List.set_cons_succ]
  have hzc := cell_of_row _ _ 0 _ _ _ hzb
  have hzf : z.frozen? ⟨p, 0, none⟩ = false := frozen_cells hzb
  refine lat_last 13 rfl (by kernel_rfl) (by decide) (by kernel_rfl) (by rfl) (fun K hK => ?_)
  go_simp
  refine hK.out _ _ ?_
  clear hK hHeld4 hzc hzf hzb hzg HX HS5 hins HC30 HB7
  generalize z.setCell ⟨p, 0, none⟩ (.map (some bd)) = w8 at *
  obtain ⟨l0, l1, l2, lf⟩ := hS8.log.cells
  have HS8 : Hid (Sw5 w (logE p v1 v2 v3) p (some bd) v2 v3 ⟨fun x => if x = (tp, pt) then some (st, nx) else S.bn x, S.rc, S.bs⟩ bf bb F G w8) := hS8
  have HC31 : Hid (Calls Try.prog 31 #[.map v2, .map (some bf)] w8 fun e z => ∃ bd2, e = .returned (.map (some bd2)) ∧ z.heap[p]? = some (.cells #[.map (some bd), .map v2, .map v3] 59 (0, 0)) ∧ Sw5 w (logE p v1 v2 v3) p (some bd) (some bd2) v3 ⟨fun x => if x = (tp, pt) then some (st, nx) else S.bn x, fun x => (F x).or (S.rc x), S.bs⟩ bf bb F G (z.setCell ⟨p, 1, none⟩ (.map (some bd2)))) := hS8.call31
  clear hS8
  go_wp2_with (first
    | (go_at_call 31; refine Calls.mono HC31.out ?_; rintro e z2 ⟨bd2, rfl, hz2, hS9⟩; have y1 := cell_of_row _ _ 1 _ _ _ hz2; have y2 := cell_of_row _ _ 2 _ _ _ hz2; have yf := fun i => frozen_cells (i := i) hz2)
    | (go_at_call 32; refine Calls.mono hS9.call32 ?_; rintro e z3 ⟨bd3, rfl, hz3, hS10⟩; have x2 := cell_of_row _ _ 2 _ _ _ hz3; have xf := fun i => frozen_cells (i := i) hz3))
  exact HE.out _ _ _ _ _ _ hS10
end Go.Proofs.Ytnnljdnaipjoiaa
