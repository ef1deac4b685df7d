/- A journal with the state it ought to have, in a box. -/
import Derived.Test.YtmodjgailmpfmaaDoorLp
import Derived.Test.YtmodjgailmpfmaaDoorWn
namespace Go.Proofs.YtmodjgailmpfmaaDoor
set_option linter.unusedSimpArgs false
set_option linter.unusedVariables false
open Go.RowKit Go.MapKept Go.Proofs
theorem JP.keeps1 {B : Nat} {E : List Nat} {w w' : World} {j dp g : Nat} {d : Dv} {T : List (List Nat)} {off : Bool} (h : JP B E w j dp d T off) (k : Keeps [g] w w') (hg : g ∈ E) : JP B E w' j dp d T off := by
  obtain ⟨FP, hJ, hFP⟩ := h
  exact JP.same hJ hFP (fun x hx => k.block x (hJ.lt x hx) (by simp; rintro rfl; exact (hFP x hx).2 hg))
def JS (B : Nat) (w wr : World) (b : Nat) (st : List Int) (j dp M : Nat) : Prop :=
  ∃ d T, Fr B [] w wr ∧ B ≤ b ∧ wr.heap[b]? = some (.cells (av st) 30 (0, 0)) ∧ st.length = 30 ∧ JP B [b] wr j dp d T false ∧ Rest d T (absS st) ∧ d.n = 275 ∧ d.cut = false ∧ d.ops ≤ M
theorem JS.below {B : Nat} {w wr w' : World} {b : Nat} {st : List Int} {j dp M : Nat} (h : JS B w wr b st j dp M) (hb : Below wr.heap.size wr w') : JS B w w' b st j dp M := by
  obtain ⟨d, T, h1, h2, h3, h4, h5, h6⟩ := h
  exact ⟨d, T, h1.below hb, h2, (hb.block b (Array.getElem?_eq_some_iff.1 h3).1).trans h3, h4, h5.below hb, h6⟩
theorem JS.fr {B : Nat} {w wr : World} {b : Nat} {st : List Int} {j dp M : Nat} (h : JS B w wr b st j dp M) : Fr B [] w wr := by obtain ⟨d, T, h1, _⟩ := h; exact h1
theorem JS.box {B : Nat} {w wr : World} {b : Nat} {st : List Int} {j dp M : Nat} (h : JS B w wr b st j dp M) : wr.heap[b]? = some (.cells (av st) 30 (0, 0)) := by obtain ⟨d, T, _, _, h1, _⟩ := h; exact h1
theorem JS.len {B : Nat} {w wr : World} {b : Nat} {st : List Int} {j dp M : Nat} (h : JS B w wr b st j dp M) : st.length = 30 := by obtain ⟨d, T, _, _, _, h1, _⟩ := h; exact h1
theorem JS.mono {B : Nat} {w wr : World} {b : Nat} {st : List Int} {j dp M M' : Nat} (h : JS B w wr b st j dp M) (hM : M ≤ M') : JS B w wr b st j dp M' := by
  obtain ⟨d, T, h1, h2, h3, h4, h5, h6, h7, h8, h9⟩ := h
  exact ⟨d, T, h1, h2, h3, h4, h5, h6, h7, h8, by omega⟩
/-- Just made. -/
theorem JS.fresh {B : Nat} {w w3 : World} {j dp : Nat} {d : Dv} (hF : Fr B [] w w3) (hJ : JP B [] w3 j dp d [] false) (hR : Rest d [] zs0) (hn : d.n = 275) (hc : d.cut = false) (ho : d.ops ≤ 3) : JS B w (w3.alloc (.cells (av z30) 30)) w3.heap.size z30 j dp 3 := by
  obtain ⟨g1, g2, g3, g4⟩ := box_z hF hJ
  exact ⟨d, [], g3, Nat.le_trans hF.big hF.size, g4, z30_len, g2, rest_z30 hR, hn, hc, ho⟩
/-- Behind a commit: both boxes. -/
def JM (B : Nat) (w wr : World) (b b2 : Nat) (st st2 : List Int) (j dp M : Nat) : Prop :=
  ∃ d T, Fr B [] w wr ∧ B ≤ b ∧ wr.heap[b]? = some (.cells (av st) 30 (0, 0)) ∧ st.length = 30 ∧ wr.heap[b2]? = some (.cells (av st2) 30 (0, 0)) ∧ st2.length = 30 ∧ JP B [b] wr j dp d T false ∧ Rest d T (absS st2) ∧ d.n = 275 ∧ d.cut = false ∧ d.ops ≤ M
theorem JM.box {B : Nat} {w wr : World} {b b2 : Nat} {st st2 : List Int} {j dp M : Nat} (h : JM B w wr b b2 st st2 j dp M) : wr.heap[b]? = some (.cells (av st) 30 (0, 0)) ∧ wr.heap[b2]? = some (.cells (av st2) 30 (0, 0)) ∧ st.length = 30 ∧ st2.length = 30 := by
  obtain ⟨d, T, _, _, h1, h2, h3, h4, _⟩ := h; exact ⟨h1, h3, h2, h4⟩
theorem keeps_setRow (w : World) (b : Nat) (A : Array Value) : Keeps [b] w (w.setRow b A) :=
  ⟨rfl, rfl, rfl, by simp, fun x _ hx => setRow_other _ _ _ _ (by simpa using hx)⟩
theorem JM.store {B : Nat} {w wr : World} {b b2 : Nat} {st st2 : List Int} {j dp M : Nat} (h : JM B w wr b b2 st st2 j dp M) : JS B w (wr.setRow b (av st2)) b st2 j dp M := by
  obtain ⟨d, T, h1, h2, h3, h4, h5, h6, h7, h8, h9⟩ := h
  have k := keeps_setRow wr b (av st2)
  exact ⟨d, T, h1.keeps k (fun x hx => by simp at hx; subst hx; exact ⟨h2, by simp⟩), h2, setRow_heap _ _ _ _ _ _ h3, h6, h7.keeps1 k (by simp), h8, h9⟩
/-- The commit of what changes made. -/
theorem JS.commit {B : Nat} {w wr w6 : World} {b : Nat} {st : List Int} {j dp M : Nat} (h : JS B w wr b st j dp M) (hM : M + 345 ≤ 1000000) {cl : List (Int × Int)} {v x : Value} (h6 : ChgPost wr cl st (.returned (.tuple #[v, x])) w6) (Z : Array Value) :
    Calls Tryd.prog 18 #[.pointer (some ⟨j, 0, none⟩), v] ((w6.alloc (.cells Z 30)).setRow w6.heap.size (av (csOf cl st).st)) fun e w' => e = .returned (.int .i64 0) ∧ JM B w w' b w6.heap.size st (csOf cl st).st j dp (M + 345) := by
  obtain ⟨d, T, h1, h2, h3, h4, h5, hR, hn, hc, ho⟩ := h
  have hbl := (Array.getElem?_eq_some_iff.1 h3).1
  have hFb : Fr B [b] wr wr := h1.more (fun x hx => by simp at hx; omega)
  obtain ⟨rfl, hv, E', hE1, hE2, hF8, hJ8, hC8, hx8, hb8⟩ := box_chg h4 hFb h5 h6 Z
  have hok := csOk cl st h4
  refine (commitG hF8 hJ8 hR hn hC8 hok (by omega)).mono ?_
  rintro e w' ⟨c, rfl, q⟩
  rcases q with ⟨rfl, hF', d', T', hJ', hR', hx⟩ | ⟨rfl, hF', d', T', hJ', hS', hx, hcut⟩
  · refine ⟨rfl, d', T', (h1.below hb8).trans hF' (by simp), h2, ?_, h4, (hF'.same _ hE2).trans hx8, hok.stl, hJ'.ext (fun y hy => .inl (hE1 y hy)), hR', hx.n.trans hn, hx.cut.trans hc, by have := hx.ops; omega⟩
    rw [hF'.same b (hE1 b (by simp)), hb8.block b hbl]; exact h3
  · rw [hx.cut, hc] at hcut; cases hcut
theorem JS.is {B : Nat} {w wr : World} {b : Nat} {st : List Int} {j dp M : Nat} (h : JS B w wr b st j dp M) :
    Calls Tryd.prog 24 #[.pointer (some ⟨j, 0, none⟩), .agg (av st)] wr fun e w' => e = .returned (.bool true) ∧ JS B w w' b st j dp M := by
  obtain ⟨d, T, h1, h2, h3, h4, h5, hR, hn, hc, ho⟩ := id h
  refine (is_any h5 hR hn st h4).mono ?_
  rintro e w' ⟨rfl, hb⟩
  exact ⟨by rw [isB_self], h.below hb⟩
/-- A crash, and the opening of what it leaves. -/
def JOpen (B : Nat) (w : World) (b : Nat) (st : List Int) (e : Ending) (w' : World) : Prop :=
  ∃ dp j, e = .returned (.tuple #[.pointer (some ⟨dp, 0, none⟩), .pointer (some ⟨j, 0, none⟩), .bool true]) ∧ JS B w w' b st j dp 1
theorem JS.crash {B : Nat} {w wr : World} {b : Nat} {st : List Int} {j dp M : Nat} (h : JS B w wr b st j dp M) (a : Option Addr) (l : List Int) (cap : Nat) (hl : RowI wr a l) (hll : l.length ≤ 9223372036854775807) :
    Calls Tryd.prog 29 #[.pointer (some ⟨dp, 0, none⟩), .slice a l.length cap] wr fun e w' => ∃ c, e = .returned (.pointer (some ⟨c, 0, none⟩)) ∧ Calls Tryd.prog 31 #[.pointer (some ⟨c, 0, none⟩), .slice none 0 0, .slice none 0 0] w' (JOpen B w b st) := by
  obtain ⟨d, T, h1, h2, h3, h4, h5, hR, hn, hc, ho⟩ := id h
  have hbl := (Array.getElem?_eq_some_iff.1 h3).1
  have hFb : Fr B [b] wr wr := h1.more (fun x hx => by simp at hx; omega)
  refine (crashF hFb h5.dev a l cap hl hll).mono ?_
  rintro e w' ⟨c, rfl, g1, g2, _⟩
  obtain ⟨T', hR'⟩ := hR.crash l
  refine ⟨c, rfl, (opened_any g1 g2 hR' rfl rfl none none 0 0 [] [] (fun _ _ => RowI.nil _ _) (fun _ _ => RowI.nil _ _) (by simp) (by simp)).mono ?_⟩
  rintro e w'' ⟨dp', j', d', T'', rfl, q1, q2, q3, q4, q5, q6⟩
  exact ⟨dp', j', rfl, d', T'', h1.trans q1 (by simp), h2, (q1.same b (by simp)).trans h3, h4, q2, q3, q4.trans hn, q5, q6⟩
/-- Sync: all homes stand. -/
def JSy (B : Nat) (w wr : World) (b : Nat) (st : List Int) (j dp M : Nat) : Prop := JS B w wr b st j dp M ∧ ∃ d, DP B [b] wr dp d ∧ Rest d [] (absS st) ∧ d.n = 275
theorem JS.sync {B : Nat} {w wr : World} {b : Nat} {st : List Int} {j dp M : Nat} (h : JS B w wr b st j dp M) (hM : M + 345 ≤ 1000000) :
    Calls Tryd.prog 19 #[.pointer (some ⟨j, 0, none⟩)] wr fun e w' => e = .returned (.int .i64 0) ∧ JSy B w w' b st j dp (M + 345) := by
  obtain ⟨d, T, h1, h2, h3, h4, h5, hR, hn, hc, ho⟩ := id h
  have hbl := (Array.getElem?_eq_some_iff.1 h3).1
  have hFb : Fr B [b] wr wr := h1.more (fun x hx => by simp at hx; omega)
  refine (sync_ok hFb h5 hR (by omega)).mono ?_
  rintro e w' ⟨c, rfl, q⟩
  rcases q with ⟨rfl, hF', d', hJ', hR', hx⟩ | ⟨rfl, hF', d', T', hJ', hS', hx, hcut⟩
  · exact ⟨rfl, ⟨d', [], h1.trans hF' (by simp), h2, (hF'.same b (by simp)).trans h3, h4, hJ', hR', hx.n.trans hn, hx.cut.trans hc, by have := hx.ops; omega⟩, d', hJ'.dev, hR', hx.n.trans hn⟩
  · rw [hx.cut, hc] at hcut; cases hcut
theorem JSy.below {B : Nat} {w wr w' : World} {b : Nat} {st : List Int} {j dp M : Nat} (h : JSy B w wr b st j dp M) (hb : Below wr.heap.size wr w') : JSy B w w' b st j dp M := by
  obtain ⟨h1, d, h2, h3⟩ := h
  exact ⟨h1.below hb, d, h2.below hb, h3⟩
theorem find_nil (k : Nat) : find [] k = k := by simp [find, findN]
/-- Homes, read from the device. -/
theorem home_read {B : Nat} {E : List Nat} {w : World} {dp : Nat} {d : Dv} {s : Nat → List Nat} (hD : DP B E w dp d) (hR : Rest d [] s) (k : Nat) (h1 : 245 ≤ k) (h2 : k < d.n) :
    Calls Tryd.prog 20 #[.pointer (some ⟨dp, 0, none⟩), .int .i64 (k : Int)] w fun e w' => ∃ g, e = .returned (.tuple #[.slice (some ⟨g, 0, none⟩) 512 512, .int .i64 0]) ∧ Full w' g 81 (s k) ∧ w.heap.size ≤ g ∧ Below w.heap.size w w' := by
  obtain ⟨F, hd, _⟩ := hD
  have := readD hd k h2
  have e := rest_read hR h1 h2
  rw [find_nil] at e
  rw [e] at this
  exact this
end Go.Proofs.YtmodjgailmpfmaaDoor
