/- JournalCrash: three boxes, a device that may be cut. -/
import Derived.Test.YtmodjgailmpfmaaDoorLt
namespace Go.Proofs.YtmodjgailmpfmaaDoor
set_option linter.unusedSimpArgs false
set_option linter.unusedVariables false
open Go.RowKit Go.MapKept Go.Proofs
def Bx (w : World) (b : Nat) (st : List Int) : Prop := w.heap[b]? = some (.cells (av st) 30 (0, 0))
theorem Bx.lt {w : World} {b : Nat} {st : List Int} (h : Bx w b st) : b < w.heap.size := (Array.getElem?_eq_some_iff.1 h).1
theorem Bx.below {w w' : World} {b : Nat} {st : List Int} (h : Bx w b st) (hb : Below w.heap.size w w') : Bx w' b st := (hb.block b h.lt).trans h
theorem Bx.set {w : World} {b : Nat} {st : List Int} (h : Bx w b st) (t : List Int) : Bx (w.setRow b (av t)) b t := setRow_heap _ _ _ _ _ _ h
theorem Bx.oth {w : World} {b c : Nat} {st : List Int} (h : Bx w b st) (hne : b ≠ c) (A : Array Value) : Bx (w.setRow c A) b st := (setRow_other _ _ _ _ hne).trans h
/-- The journal at rest. -/
def JE (B : Nat) (E : List Nat) (w : World) (j dp : Nat) (st : List Int) (M : Nat) : Prop := ∃ d T, JP B E w j dp d T false ∧ Rest d T (absS st) ∧ d.n = 275 ∧ d.ops ≤ M
/-- The power is gone. -/
def DX (B : Nat) (E : List Nat) (w : World) (dp : Nat) (st st2 : List Int) : Prop := ∃ d, DP B E w dp d ∧ Safe d (absS st) (absS st2) ∧ d.n = 275
theorem JE.below {B : Nat} {E : List Nat} {w w' : World} {j dp : Nat} {st : List Int} {M : Nat} (h : JE B E w j dp st M) (hb : Below w.heap.size w w') : JE B E w' j dp st M := by
  obtain ⟨d, T, h1, h2⟩ := h; exact ⟨d, T, h1.below hb, h2⟩
theorem JE.set {B : Nat} {E : List Nat} {w : World} {j dp : Nat} {st : List Int} {M b : Nat} (h : JE B E w j dp st M) (hb : b ∈ E) (A : Array Value) : JE B E (w.setRow b A) j dp st M := by
  obtain ⟨d, T, h1, h2⟩ := h; exact ⟨d, T, h1.keeps1 (keeps_setRow w b A) hb, h2⟩
theorem JE.ext {B : Nat} {E E' : List Nat} {w : World} {j dp : Nat} {st : List Int} {M : Nat} (h : JE B E w j dp st M) (hE : ∀ x ∈ E', x ∈ E ∨ w.heap.size ≤ x) : JE B E' w j dp st M := by
  obtain ⟨d, T, h1, h2⟩ := h; exact ⟨d, T, h1.ext hE, h2⟩
theorem DP.keeps1 {B : Nat} {E : List Nat} {w w' : World} {dp g : Nat} {d : Dv} (h : DP B E w dp d) (k : Keeps [g] w w') (hg : g ∈ E) : DP B E w' dp d := by
  obtain ⟨F, hd, hFP⟩ := h
  exact ⟨F, hd.same (fun x hx => k.block x (hd.lt x hx) (by simp; rintro rfl; exact (hFP x hx).2 hg)), hFP⟩
theorem DX.set {B : Nat} {E : List Nat} {w : World} {dp : Nat} {st st2 : List Int} {b : Nat} (h : DX B E w dp st st2) (hb : b ∈ E) (A : Array Value) : DX B E (w.setRow b A) dp st st2 := by
  obtain ⟨d, h1, h2⟩ := h; exact ⟨d, h1.keeps1 (keeps_setRow w b A) hb, h2⟩
theorem Fr.set {B : Nat} {w wr : World} {b : Nat} (h : Fr B [] w wr) (hb : B ≤ b) (A : Array Value) : Fr B [] w (wr.setRow b A) := h.keeps (keeps_setRow wr b A) (fun x hx => by simp at hx; subst hx; exact ⟨hb, by simp⟩)
/-- What an answer leaves, in the blocks E. -/
def CAns (B : Nat) (E : List Nat) (w w8 : World) (j dp : Nat) (st st2 : List Int) (M : Nat) (e : Ending) (w' : World) : Prop :=
  Fr B [] w w' ∧ (∀ x ∈ E, w'.heap[x]? = w8.heap[x]?) ∧ ((e = .returned (.int .i64 0) ∧ JE B E w' j dp st2 M) ∨ (e = .returned (.int .i64 9) ∧ DX B E w' dp st st2))
theorem CAns.bx {B : Nat} {E : List Nat} {w w8 w' : World} {j dp : Nat} {st st2 : List Int} {M : Nat} {e : Ending} (h : CAns B E w w8 j dp st st2 M e w') {b : Nat} (hb : b ∈ E) {s : List Int} (hx : Bx w8 b s) : Bx w' b s := (h.2.1 b hb).trans hx
theorem sync_c {B : Nat} {E : List Nat} {w wr : World} {j dp : Nat} {st : List Int} {M : Nat} (hF : Fr B [] w wr) (hE : ∀ x ∈ E, x < wr.heap.size) (h : JE B E wr j dp st M) (hM : M + 345 ≤ 1000000) :
    Calls Tryd.prog 19 #[.pointer (some ⟨j, 0, none⟩)] wr (CAns B E w wr j dp st st (M + 345)) := by
  obtain ⟨d, T, h5, hR, hn, ho⟩ := h
  refine (sync_ok (hF.more hE) h5 hR (by omega)).mono ?_
  rintro e w' ⟨c, rfl, q⟩
  rcases q with ⟨rfl, hF', d', hJ', hR', hx⟩ | ⟨rfl, hF', d', T', hJ', hS', hx, hcut⟩
  · exact ⟨hF.trans hF' (by simp), hF'.same, .inl ⟨rfl, d', [], hJ', hR', hx.n.trans hn, by have := hx.ops; omega⟩⟩
  · exact ⟨hF.trans hF' (by simp), hF'.same, .inr ⟨rfl, d', hJ'.dev, hS', hx.n.trans hn⟩⟩
/-- Commit, in a world in which all but the box bt stands as it stood behind changes. -/
theorem commit_c {B : Nat} {E Ex : List Nat} {w w5 w8 : World} {j dp bt : Nat} {st : List Int} {cl : List (Int × Int)} {M : Nat} {v : Value} {A : Array Value} (hst : st.length = 30) (hF : Fr B [] w w5) (hB : B ≤ bt) (hE : ∀ x ∈ E, x < w5.heap.size) (hbt : bt ∈ E) (h : JE B E w5 j dp st M) (hM : M + 345 ≤ 1000000)
    (hb8 : Below w5.heap.size w5 w8) (hEx : ∀ y ∈ Ex, w5.heap.size ≤ y ∧ y < w8.heap.size) (hC : Chg Ex w8 v (csOf cl st)) :
    Calls Tryd.prog 18 #[.pointer (some ⟨j, 0, none⟩), v] (w8.setRow bt A) (CAns B E w (w8.setRow bt A) j dp st (csOf cl st).st (M + 345)) := by
  obtain ⟨d, T, h5, hR, hn, ho⟩ := h
  have hbl := hE bt hbt
  have k := keeps_setRow w8 bt A
  have s9 : (w8.setRow bt A).heap.size = w8.heap.size := by simp
  have hs := hb8.size
  have hF9 : Fr B [] w (w8.setRow bt A) := (hF.below hb8).set hB A
  have hJ9 : JP B (Ex ++ E) (w8.setRow bt A) j dp d T false := ((h5.ext (fun y hy => by
    rcases List.mem_append.1 hy with q | q
    · exact .inr (hEx y q).1
    · exact .inl q)).below hb8).keeps1 k (by simp [hbt])
  have hC9 : Chg (Ex ++ E) (w8.setRow bt A) v (csOf cl st) := (hC.same (fun y hy => k.block y (hEx y hy).2 (by have := (hEx y hy).1; simp; omega))).ext (fun y hy => by simp [hy])
  have hFE : Fr B (Ex ++ E) (w8.setRow bt A) (w8.setRow bt A) := hF9.more (fun y hy => by
    rw [s9]
    rcases List.mem_append.1 hy with q | q
    · exact (hEx y q).2
    · have := hE y q; omega)
  refine (commitG hFE hJ9 hR hn hC9 (csOk cl st hst) (by omega)).mono ?_
  rintro e w' ⟨c, rfl, q⟩
  rcases q with ⟨rfl, hF', d', T', hJ', hR', hx⟩ | ⟨rfl, hF', d', T', hJ', hS', hx, hcut⟩
  · exact ⟨hF9.trans hF' (by simp), fun x hx => hF'.same x (by simp [hx]), .inl ⟨rfl, d', T', hJ'.ext (fun y hy => .inl (by simp [hy])), hR', hx.n.trans hn, by have := hx.ops; omega⟩⟩
  · exact ⟨hF9.trans hF' (by simp), fun x hx => hF'.same x (by simp [hx]), .inr ⟨rfl, d', hJ'.dev.ext (fun y hy => .inl (by simp [hy])), hS', hx.n.trans hn⟩⟩
/-- The region's two outcomes: changes, then the box; the box, then changes. -/
def Made (w5 w8 : World) (b4 : Nat) (cl : List (Int × Int)) (st : List Int) (v : Value) : Prop :=
  Bx w8 b4 (csOf cl st).st ∧ Below w5.heap.size w5 w8 ∧ w5.heap.size ≤ b4 ∧ ∃ Ex, (∀ y ∈ Ex, w5.heap.size ≤ y ∧ y < w8.heap.size) ∧ Chg Ex w8 v (csOf cl st)
theorem made_a {w5 w6 : World} {cl : List (Int × Int)} {st : List Int} (hst : st.length = 30) {v x : Value} (Z : Array Value) (h6 : ChgPost w5 cl st (.returned (.tuple #[v, x])) w6) : Made w5 ((w6.alloc (.cells Z 30)).setRow w6.heap.size (av (csOf cl st).st)) w6.heap.size cl st v := by
  obtain ⟨rfl, hb6, hv, Ex, hEx, hC⟩ := chg_of hst h6
  obtain ⟨q1, q2, q3⟩ := boxed w6 Z (av (csOf cl st).st)
  have hs6 := hb6.size
  exact ⟨q2, hb6.trans (q1.mono hs6), hs6, Ex ++ [], fun y hy => by simp at hy; have := hEx y hy; rw [q3]; omega, (hC []).same (fun y hy => q1.block y (by simp at hy; exact (hEx y hy).2))⟩
theorem made_b {w5 w6 : World} {cl : List (Int × Int)} {st : List Int} (hst : st.length = 30) {v x : Value} {Z : Array Value} (h6 : ChgPost (w5.alloc (.cells Z 30)) cl st (.returned (.tuple #[v, x])) w6) : Made w5 (w6.setRow w5.heap.size (av (csOf cl st).st)) w5.heap.size cl st v := by
  obtain ⟨rfl, hb6, hv, Ex, hEx, hC⟩ := chg_of hst h6
  have b1 : Below w5.heap.size w5 (w5.alloc (.cells Z 30)) := (Below.refl _ _).alloc (Nat.le_refl _) _
  have e1 := heap_alloc_new w5 (.cells Z 30)
  have s1 : (w5.alloc (.cells Z 30)).heap.size = w5.heap.size + 1 := by show (w5.heap.push _).size = _; simp
  have hs6 := hb6.size
  have hx6 : w6.heap[w5.heap.size]? = some (.cells Z 30 (0, 0)) := (hb6.block _ (by omega)).trans e1
  have hb56 : Below w5.heap.size w5 w6 := b1.trans (hb6.mono (by omega))
  have oth : ∀ y, y ≠ w5.heap.size → (w6.setRow w5.heap.size (av (csOf cl st).st)).heap[y]? = w6.heap[y]? := fun y hy => setRow_other _ _ _ _ hy
  have s8 : (w6.setRow w5.heap.size (av (csOf cl st).st)).heap.size = w6.heap.size := by simp
  exact ⟨setRow_heap _ _ _ _ _ _ hx6, hb56.trans ⟨rfl, rfl, rfl, by rw [s8]; exact Nat.le_refl _, fun y hy => oth y (by omega)⟩, Nat.le_refl _, Ex ++ [], fun y hy => by simp at hy; have := hEx y hy; rw [s8]; omega, (hC []).same (fun y hy => oth y (by simp at hy; have := hEx y hy; omega))⟩
/-- Behind the loop. -/
def TZ (B : Nat) (w wr : World) (bs bm : Nat) (st sm : List Int) (dp : Nat) : Prop :=
  Fr B [] w wr ∧ Bx wr bs st ∧ Bx wr bm sm ∧ st.length = 30 ∧ sm.length = 30 ∧ DX B [bs, bm] wr dp st sm
def ZOpen (B : Nat) (w : World) (bs bm : Nat) (st sm : List Int) (e : Ending) (w' : World) : Prop :=
  ∃ dp j d T s, e = .returned (.tuple #[.pointer (some ⟨dp, 0, none⟩), .pointer (some ⟨j, 0, none⟩), .bool true]) ∧ Fr B [] w w' ∧ Bx w' bs st ∧ Bx w' bm sm ∧ st.length = 30 ∧ sm.length = 30 ∧ JP B [bs, bm] w' j dp d T false ∧ Rest d T (absS s) ∧ d.n = 275 ∧ (s = st ∨ s = sm)
theorem TZ.crash {B : Nat} {w wr : World} {bs bm : Nat} {st sm : List Int} {dp : Nat} (h : TZ B w wr bs bm st sm dp) (pa ca : Option Addr) (picks cuts : List Int) (pcap ccap : Nat) (hp : ∀ w', Fr B [] w w' → RowI w' pa picks) (hcu : ∀ w', Fr B [] w w' → RowI w' ca cuts) (hpl : picks.length ≤ 9223372036854775807) (hcl : cuts.length ≤ 9223372036854775807) :
    Calls Tryd.prog 29 #[.pointer (some ⟨dp, 0, none⟩), .slice pa picks.length pcap] wr fun e w' => ∃ c, e = .returned (.pointer (some ⟨c, 0, none⟩)) ∧ Calls Tryd.prog 31 #[.pointer (some ⟨c, 0, none⟩), .slice ca cuts.length ccap, .slice pa picks.length pcap] w' (ZOpen B w bs bm st sm) := by
  obtain ⟨hF, x1, x2, l1, l2, d, hD, hS, hn⟩ := h
  have hFb : Fr B [bs, bm] wr wr := hF.more (fun x hx => by simp at hx; rcases hx with rfl | rfl; exact x1.lt; exact x2.lt)
  refine (crashF hFb hD pa picks pcap (hp wr hF) hpl).mono ?_
  rintro e w' ⟨c, rfl, g1, g2, _⟩
  have key : ∀ s T, Rest (d.crash picks) T (absS s) → (s = st ∨ s = sm) → Calls Tryd.prog 31 #[.pointer (some ⟨c, 0, none⟩), .slice ca cuts.length ccap, .slice pa picks.length pcap] w' (ZOpen B w bs bm st sm) := fun s T hR hs => by
    refine (opened_any g1 g2 hR rfl rfl ca pa ccap pcap cuts picks (fun w'' h => hcu w'' (hF.trans h (by simp))) (fun w'' h => hp w'' (hF.trans h (by simp))) hcl hpl).mono ?_
    rintro e w'' ⟨dp', j', d', T'', rfl, q1, q2, q3, q4, q5, q6⟩
    exact ⟨dp', j', d', T'', s, rfl, hF.trans q1 (by simp), (q1.same bs (by simp)).trans x1, (q1.same bm (by simp)).trans x2, l1, l2, q2, q3, q4.trans hn, hs⟩
  rcases hS.crash (by omega) picks with ⟨T, hR⟩ | ⟨T, hR⟩
  · exact ⟨c, rfl, key st T hR (.inl rfl)⟩
  · exact ⟨c, rfl, key sm T hR (.inr rfl)⟩
end Go.Proofs.YtmodjgailmpfmaaDoor
