/- Journals on a device that may be cut. -/
import Derived.Test.YtmodjgailmpfmaaDoorLs
namespace Go.Proofs.YtmodjgailmpfmaaDoor
set_option linter.unusedSimpArgs false
set_option linter.unusedVariables false
open Go.RowKit Go.MapKept Go.Proofs
/-- As JS, whatever the cut. -/
def JC (B : Nat) (w wr : World) (b : Nat) (st : List Int) (j dp M : Nat) : Prop :=
  ∃ d T, Fr B [] w wr ∧ B ≤ b ∧ wr.heap[b]? = some (.cells (av st) 30 (0, 0)) ∧ st.length = 30 ∧ JP B [b] wr j dp d T false ∧ Rest d T (absS st) ∧ d.n = 275 ∧ d.ops ≤ M
theorem JC.below {B : Nat} {w wr w' : World} {b : Nat} {st : List Int} {j dp M : Nat} (h : JC B w wr b st j dp M) (hb : Below wr.heap.size wr w') : JC B w w' b st j dp M := by
  obtain ⟨d, T, h1, h2, h3, h4, h5, h6⟩ := h
  exact ⟨d, T, h1.below hb, h2, (hb.block b (Array.getElem?_eq_some_iff.1 h3).1).trans h3, h4, h5.below hb, h6⟩
theorem JC.fr {B : Nat} {w wr : World} {b : Nat} {st : List Int} {j dp M : Nat} (h : JC B w wr b st j dp M) : Fr B [] w wr := by obtain ⟨d, T, h1, _⟩ := h; exact h1
theorem JC.box {B : Nat} {w wr : World} {b : Nat} {st : List Int} {j dp M : Nat} (h : JC B w wr b st j dp M) : wr.heap[b]? = some (.cells (av st) 30 (0, 0)) := by obtain ⟨d, T, _, _, h1, _⟩ := h; exact h1
theorem JC.len {B : Nat} {w wr : World} {b : Nat} {st : List Int} {j dp M : Nat} (h : JC B w wr b st j dp M) : st.length = 30 := by obtain ⟨d, T, _, _, _, h1, _⟩ := h; exact h1
theorem JC.mono {B : Nat} {w wr : World} {b : Nat} {st : List Int} {j dp M M' : Nat} (h : JC B w wr b st j dp M) (hM : M ≤ M') : JC B w wr b st j dp M' := by
  obtain ⟨d, T, h1, h2, h3, h4, h5, h6, h7, h8⟩ := h
  exact ⟨d, T, h1, h2, h3, h4, h5, h6, h7, by omega⟩
/-- Behind a commit that was answered. -/
def JCM (B : Nat) (w wr : World) (b b2 : Nat) (st st2 : List Int) (j dp M : Nat) : Prop :=
  ∃ d T, Fr B [] w wr ∧ B ≤ b ∧ wr.heap[b]? = some (.cells (av st) 30 (0, 0)) ∧ st.length = 30 ∧ wr.heap[b2]? = some (.cells (av st2) 30 (0, 0)) ∧ st2.length = 30 ∧ JP B [b] wr j dp d T false ∧ Rest d T (absS st2) ∧ d.n = 275 ∧ d.ops ≤ M
theorem JCM.box {B : Nat} {w wr : World} {b b2 : Nat} {st st2 : List Int} {j dp M : Nat} (h : JCM B w wr b b2 st st2 j dp M) : wr.heap[b]? = some (.cells (av st) 30 (0, 0)) ∧ wr.heap[b2]? = some (.cells (av st2) 30 (0, 0)) := by
  obtain ⟨d, T, _, _, h1, h2, h3, h4, _⟩ := h; exact ⟨h1, h3⟩
theorem JCM.store {B : Nat} {w wr : World} {b b2 : Nat} {st st2 : List Int} {j dp M : Nat} (h : JCM B w wr b b2 st st2 j dp M) : JC B w (wr.setRow b (av st2)) b st2 j dp M := by
  obtain ⟨d, T, h1, h2, h3, h4, h5, h6, h7, h8, h9⟩ := h
  have k := keeps_setRow wr b (av st2)
  exact ⟨d, T, h1.keeps k (fun x hx => by simp at hx; subst hx; exact ⟨h2, by simp⟩), h2, setRow_heap _ _ _ _ _ _ h3, h6, h7.keeps1 k (by simp), h8, h9⟩
/-- The power went within it. -/
def JX (B : Nat) (w wr : World) (b b2 : Nat) (st st2 : List Int) (dp : Nat) : Prop :=
  ∃ d, Fr B [] w wr ∧ wr.heap[b]? = some (.cells (av st) 30 (0, 0)) ∧ st.length = 30 ∧ wr.heap[b2]? = some (.cells (av st2) 30 (0, 0)) ∧ st2.length = 30 ∧ DP B [b2, b] wr dp d ∧ Safe d (absS st) (absS st2) ∧ d.n = 275
def JCAns (B : Nat) (w : World) (b b2 : Nat) (st st2 : List Int) (j dp M : Nat) (e : Ending) (w' : World) : Prop :=
  (e = .returned (.int .i64 0) ∧ JCM B w w' b b2 st st2 j dp M) ∨ (e = .returned (.int .i64 9) ∧ JX B w w' b b2 st st2 dp)
theorem JC.core {B : Nat} {w wr w8 : World} {b b2 : Nat} {st : List Int} {j dp M : Nat} {d : Dv} {T : List (List Nat)} {E' : List Nat} {v : Value} {c : Cs} (h1 : Fr B [] w wr) (h2 : B ≤ b) (h3 : wr.heap[b]? = some (.cells (av st) 30 (0, 0))) (h4 : st.length = 30) (hR : Rest d T (absS st)) (hn : d.n = 275) (ho : d.ops ≤ M) (hM : M + 345 ≤ 1000000) (hok : CsOk c st)
    (hE1 : b ∈ E') (hE2 : b2 ∈ E') (hF8 : Fr B E' w8 w8) (hJ8 : JP B E' w8 j dp d T false) (hC8 : Chg E' w8 v c) (hx8 : w8.heap[b2]? = some (.cells (av c.st) 30 (0, 0))) (hb8 : Below wr.heap.size wr w8) :
    Calls Tryd.prog 18 #[.pointer (some ⟨j, 0, none⟩), v] w8 (JCAns B w b b2 st c.st j dp (M + 345)) := by
  have hbl := (Array.getElem?_eq_some_iff.1 h3).1
  refine (commitG hF8 hJ8 hR hn hC8 hok (by omega)).mono ?_
  rintro e w' ⟨cc, rfl, q⟩
  have hbx : ∀ w', Fr B E' w8 w' → w'.heap[b]? = some (.cells (av st) 30 (0, 0)) := fun w' hF' => by rw [hF'.same b hE1, hb8.block b hbl]; exact h3
  rcases q with ⟨rfl, hF', d', T', hJ', hR', hx⟩ | ⟨rfl, hF', d', T', hJ', hS', hx, hcut⟩
  · exact .inl ⟨rfl, d', T', (h1.below hb8).trans hF' (by simp), h2, hbx w' hF', h4, (hF'.same _ hE2).trans hx8, hok.stl, hJ'.ext (fun y hy => .inl (by simp at hy; subst hy; exact hE1)), hR', hx.n.trans hn, by have := hx.ops; omega⟩
  · exact .inr ⟨rfl, d', (h1.below hb8).trans hF' (by simp), hbx w' hF', h4, (hF'.same _ hE2).trans hx8, hok.stl, hJ'.dev.ext (fun y hy => .inl (by simp at hy; rcases hy with rfl | rfl; exact hE2; exact hE1)), hS', hx.n.trans hn⟩
theorem JC.commit {B : Nat} {w wr w6 : World} {b : Nat} {st : List Int} {j dp M : Nat} (h : JC B w wr b st j dp M) (hM : M + 345 ≤ 1000000) {cl : List (Int × Int)} {v x : Value} (h6 : ChgPost wr cl st (.returned (.tuple #[v, x])) w6) (Z : Array Value) :
    Calls Tryd.prog 18 #[.pointer (some ⟨j, 0, none⟩), v] ((w6.alloc (.cells Z 30)).setRow w6.heap.size (av (csOf cl st).st)) (JCAns B w b w6.heap.size st (csOf cl st).st j dp (M + 345)) := by
  obtain ⟨d, T, h1, h2, h3, h4, h5, hR, hn, ho⟩ := h
  have hbl := (Array.getElem?_eq_some_iff.1 h3).1
  have hFb : Fr B [b] wr wr := h1.more (fun x hx => by simp at hx; omega)
  obtain ⟨rfl, hv, E', hE1, hE2, hF8, hJ8, hC8, hx8, hb8⟩ := box_chg h4 hFb h5 h6 Z
  exact JC.core h1 h2 h3 h4 hR hn ho hM (csOk cl st h4) (hE1 b (by simp)) hE2 hF8 hJ8 hC8 hx8 hb8
theorem JC.commitB {B : Nat} {w wr w6 : World} {b : Nat} {st : List Int} {j dp M : Nat} (h : JC B w wr b st j dp M) (hM : M + 345 ≤ 1000000) {cl : List (Int × Int)} {v x : Value} {Z : Array Value} (h6 : ChgPost (wr.alloc (.cells Z 30)) cl st (.returned (.tuple #[v, x])) w6) :
    Calls Tryd.prog 18 #[.pointer (some ⟨j, 0, none⟩), v] (w6.setRow wr.heap.size (av (csOf cl st).st)) (JCAns B w b wr.heap.size st (csOf cl st).st j dp (M + 345)) := by
  obtain ⟨d, T, h1, h2, h3, h4, h5, hR, hn, ho⟩ := h
  have hbl := (Array.getElem?_eq_some_iff.1 h3).1
  have hFb : Fr B [b] wr wr := h1.more (fun x hx => by simp at hx; omega)
  obtain ⟨rfl, hx6, E', hE1, hE2, hF8, hJ8, hC8, hx8, hb8⟩ := box_chg2 h4 hFb h5 h6
  exact JC.core h1 h2 h3 h4 hR hn ho hM (csOk cl st h4) (hE1 b (by simp)) hE2 hF8 hJ8 hC8 hx8 hb8
/-- A journal just made, its device cut, then the box. -/
theorem JC.cut {B : Nat} {w w3 : World} {j dp : Nat} {d : Dv} (hF : Fr B [] w w3) (hJ : JP B [] w3 j dp d [] false) (hR : Rest d [] zs0) (hn : d.n = 275) (ho : d.ops ≤ 3) (k : Int) (hk : k ≤ 9223372036854775807) :
    Calls Tryd.prog 30 #[.pointer (some ⟨dp, 0, none⟩), .int .i64 k] w3 fun e w' => (∃ v, e = .returned v) ∧ JC B w (w'.alloc (.cells (av z30) 30)) w'.heap.size z30 j dp 3 := by
  refine (cutJ hF hJ k hk).mono ?_
  rintro e w' ⟨q1, q2, q3⟩
  obtain ⟨g1, g2, g3, g4⟩ := box_z q2 q3
  exact ⟨q1, d.cutAt k, [], g3, Nat.le_trans q2.big q2.size, g4, z30_len, g2, rest_z30 ((Like.cutAt d k).rest hR), hn, ho⟩
/-- Two journals, the one's device left by the other's. -/
def TW (B : Nat) (w wr : World) (j1 j2 : Nat) (s : Nat → List Nat) : Prop :=
  Fr B [] w wr ∧ (∃ dp d T, JP B [] wr j1 dp d T false ∧ Rest d T s ∧ d.n = 275) ∧ ∃ dp d T, JP B [] wr j2 dp d T false ∧ Rest d T s ∧ d.n = 275
theorem TW.below {B : Nat} {w wr w' : World} {j1 j2 : Nat} {s : Nat → List Nat} (h : TW B w wr j1 j2 s) (hb : Below wr.heap.size wr w') : TW B w w' j1 j2 s := by
  obtain ⟨h1, ⟨dp, d, T, h2, h3⟩, dp', d', T', h4, h5⟩ := h
  exact ⟨h1.below hb, ⟨dp, d, T, h2.below hb, h3⟩, dp', d', T', h4.below hb, h5⟩
def OneAt (B : Nat) (w wr : World) (dp j1 : Nat) (s : Nat → List Nat) : Prop := Fr B [] w wr ∧ ∃ d T, JP B [] wr j1 dp d T false ∧ Rest d T s ∧ d.n = 275
theorem OneAt.again {B : Nat} {w wr : World} {dp j1 : Nat} {s : Nat → List Nat} (h : OneAt B w wr dp j1 s) (a : Option Addr) (l : List Int) (cap : Nat) (hl : RowI wr a l) (hll : l.length ≤ 9223372036854775807) :
    Calls Tryd.prog 29 #[.pointer (some ⟨dp, 0, none⟩), .slice a l.length cap] wr fun e w' => ∃ c, e = .returned (.pointer (some ⟨c, 0, none⟩)) ∧ Calls Tryd.prog 31 #[.pointer (some ⟨c, 0, none⟩), .slice none 0 0, .slice none 0 0] w' fun e w'' => ∃ dp2 j2, e = .returned (.tuple #[.pointer (some ⟨dp2, 0, none⟩), .pointer (some ⟨j2, 0, none⟩), .bool true]) ∧ TW B w w'' j1 j2 s := by
  obtain ⟨hF, d, T, ⟨FP, hJo, hFP⟩, hR, hn⟩ := h
  have hFw : Fr B (FP ++ []) wr wr := hF.withJ hJo
  obtain ⟨F, lb, hFPe, hd, hj, x1, x2⟩ := id hJo
  refine (crashG hFw hd a l cap hl hll).mono ?_
  rintro e w' ⟨c, rfl, g1, g2, gb⟩
  obtain ⟨T', hR'⟩ := hR.crash l
  refine ⟨c, rfl, (opened_any g1 g2 hR' rfl rfl none none 0 0 [] [] (fun _ _ => RowI.nil _ _) (fun _ _ => RowI.nil _ _) (by simp) (by simp)).mono ?_⟩
  rintro e w'' ⟨dp', j', d', T'', rfl, q1, q2, q3, q4, q5, q6⟩
  exact ⟨dp', j', rfl, hF.trans q1 (by simp), ⟨dp, d, T, JP.same hJo hFP (fun x hx => q1.same x (by simp [hx])), hR, hn⟩, dp', d', T'', q2.ext (fun x hx => by simp at hx), q3, q4.trans hn⟩
/-- What a crash leaves of either, opened. -/
def OneOpen (B : Nat) (w : World) (s : Nat → List Nat) (e : Ending) (w' : World) : Prop := ∃ dp j1, e = .returned (.tuple #[.pointer (some ⟨dp, 0, none⟩), .pointer (some ⟨j1, 0, none⟩), .bool true]) ∧ OneAt B w w' dp j1 s
theorem one_open {B : Nat} {w wr : World} {c : Nat} {d : Dv} {T : List (List Nat)} {s : Nat → List Nat} (hF : Fr B [] w wr) (hD : DP B [] wr c d) (hR : Rest d T s) (hn : d.n = 275) (hc : d.cut = false) (ho : d.ops = 0) :
    Calls Tryd.prog 31 #[.pointer (some ⟨c, 0, none⟩), .slice none 0 0, .slice none 0 0] wr (OneOpen B w s) := by
  refine (opened_any hF hD hR hc ho none none 0 0 [] [] (fun _ _ => RowI.nil _ _) (fun _ _ => RowI.nil _ _) (by simp) (by simp)).mono ?_
  rintro e w'' ⟨dp', j', d', T'', rfl, q1, q2, q3, q4, q5, q6⟩
  exact ⟨dp', j', rfl, q1, d', T'', q2, q3, q4.trans hn⟩
def Gone (B : Nat) (w wr : World) (dp : Nat) : Prop := ∃ d s t, Fr B [] w wr ∧ DP B [] wr dp d ∧ Safe d s t ∧ d.n = 275
theorem JC.gone {B : Nat} {w wr : World} {b : Nat} {st : List Int} {j dp M : Nat} (h : JC B w wr b st j dp M) : Gone B w wr dp := by
  obtain ⟨d, T, h1, h2, h3, h4, h5, h6, h7, h8⟩ := h
  exact ⟨d, absS st, absS st, h1, h5.dev.ext (fun x hx => by simp at hx), h6.safe _, h7⟩
theorem JX.gone {B : Nat} {w wr : World} {b b2 : Nat} {st st2 : List Int} {dp : Nat} (h : JX B w wr b b2 st st2 dp) : Gone B w wr dp := by
  obtain ⟨d, h1, _, _, _, _, h5, h6, h7⟩ := h
  exact ⟨d, _, _, h1, h5.ext (fun x hx => by simp at hx), h6, h7⟩
theorem Gone.crash {B : Nat} {w wr : World} {dp : Nat} (h : Gone B w wr dp) (a : Option Addr) (l : List Int) (cap : Nat) (hl : RowI wr a l) (hll : l.length ≤ 9223372036854775807) :
    Calls Tryd.prog 29 #[.pointer (some ⟨dp, 0, none⟩), .slice a l.length cap] wr fun e w' => ∃ c s, e = .returned (.pointer (some ⟨c, 0, none⟩)) ∧ Calls Tryd.prog 31 #[.pointer (some ⟨c, 0, none⟩), .slice none 0 0, .slice none 0 0] w' (OneOpen B w s) := by
  obtain ⟨d, s, t, hF, hD, hS, hn⟩ := h
  refine (crashF hF hD a l cap hl hll).mono ?_
  rintro e w' ⟨c, rfl, g1, g2, _⟩
  rcases hS.crash (by omega) l with ⟨T, hR⟩ | ⟨T, hR⟩
  · exact ⟨c, s, rfl, one_open g1 g2 hR hn rfl rfl⟩
  · exact ⟨c, t, rfl, one_open g1 g2 hR hn rfl rfl⟩
theorem TW.read {B : Nat} {w wr : World} {j1 j2 : Nat} {s : Nat → List Nat} (h : TW B w wr j1 j2 s) (x : Nat) (hx : x < 30) (jj : Nat) (hj : jj = j1 ∨ jj = j2) :
    Calls Tryd.prog 26 #[.pointer (some ⟨jj, 0, none⟩), .int .i64 (245 + (x : Int))] wr fun e w' => ∃ g, e = .returned (.tuple #[.slice (some ⟨g, 0, none⟩) 512 512, .int .i64 0]) ∧ Full w' g 81 (s (245 + x)) ∧ Below wr.heap.size wr w' := by
  obtain ⟨h1, ⟨dp, d, T, h2, h3, h3n⟩, dp', d', T', h4, h5, h5n⟩ := h
  rcases hj with rfl | rfl
  · have := readJ h2 h3 (245 + x) (by omega) (by omega)
    rw [show ((245 + x : Nat) : Int) = 245 + (x : Int) by omega] at this
    exact this.mono (fun e w' q => by obtain ⟨g, e, a, _, b⟩ := q; exact ⟨g, e, a, b⟩)
  · have := readJ h4 h5 (245 + x) (by omega) (by omega)
    rw [show ((245 + x : Nat) : Int) = 245 + (x : Int) by omega] at this
    exact this.mono (fun e w' q => by obtain ⟨g, e, a, _, b⟩ := q; exact ⟨g, e, a, b⟩)
theorem TW.slt {B : Nat} {w wr : World} {j1 j2 : Nat} {s : Nat → List Nat} (h : TW B w wr j1 j2 s) (x : Nat) (hx : x < 30) : (s (245 + x)).length = 512 ∧ ∀ i, (s (245 + x)).getD i 0 < 256 := by
  obtain ⟨h1, ⟨dp, d, T, h2, h3, h3n⟩, _⟩ := h
  exact h3.slt h2.ok (by omega) (by omega)
end Go.Proofs.YtmodjgailmpfmaaDoor
