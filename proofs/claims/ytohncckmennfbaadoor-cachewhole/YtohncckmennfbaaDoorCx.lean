/- A cache on a device that may be cut; what a crash leaves of it. -/
import Derived.Test.YtohncckmennfbaaDoorCl
namespace Go.Proofs.YtohncckmennfbaaDoor
set_option linter.unusedSimpArgs false
set_option linter.unusedVariables false
set_option maxRecDepth 100000
open Go.RowKit Go.MapKept Go.Proofs
open Go.ChangeMaps (setBlock heap_setBlock_same heap_setBlock_other)
/-- As BS, whatever the cut. -/
structure WS (B : Nat) (w1 : World) (E : List Nat) (w : World) (c dp m : Nat) (V : Nat → List Nat) (X : Tx) : Prop where
  fr : Fr B [] w1 w
  ge : ∀ x ∈ E, B ≤ x ∧ x < w.heap.size
  cq : ∃ j d T, CP B E w c j dp d T false X ∧ Rest d T V ∧ d.n = 325 ∧ d.ops ≤ m
/-- The power is gone: a crash leaves s or t. -/
structure WG (B : Nat) (w1 : World) (E : List Nat) (w : World) (dp : Nat) (s t : Nat → List Nat) : Prop where
  fr : Fr B [] w1 w
  ge : ∀ x ∈ E, B ≤ x ∧ x < w.heap.size
  dq : ∃ d, DP B E w dp d ∧ Safe d s t ∧ d.n = 325
section
variable {B : Nat} {w1 w w' : World} {E : List Nat} {c dp m m' : Nat} {V V' : Nat → List Nat} {X X' : Tx}
theorem WS.frE (h : WS B w1 E w c dp m V X) : Fr B E w w := Fr.start (fun x hx => (h.ge x hx).2) (Nat.le_trans h.fr.big h.fr.size) h.fr.pos h.fr.tab
theorem WS.after (h : WS B w1 E w c dp m V X) (hF : Fr B E w w') (g : ∃ j d T, CP B E w' c j dp d T false X' ∧ Rest d T V' ∧ d.n = 325 ∧ d.ops ≤ m') : WS B w1 E w' c dp m' V' X' ∧ Same E w w' :=
  ⟨⟨h.fr.trans hF (by simp), fun x hx => ⟨(h.ge x hx).1, hF.ltw x hx⟩, g⟩, hF.same⟩
theorem WS.below (h : WS B w1 E w c dp m V X) (hb : Below w.heap.size w w') : WS B w1 E w' c dp m V X ∧ Same E w w' := by
  obtain ⟨j, d, T, h1, h2⟩ := h.cq
  exact h.after (h.frE.below hb) ⟨j, d, T, h1.below hb, h2⟩
theorem WS.keeps {G : List Nat} (h : WS B w1 E w c dp m V X) (k : Keeps G w w') (hG : ∀ x ∈ G, x ∈ E) : WS B w1 E w' c dp m V X := by
  obtain ⟨hF, hge, j, d, T, h1, h2⟩ := h
  exact ⟨hF.keeps k (fun x hx => ⟨(hge x (hG x hx)).1, by simp⟩), fun x hx => ⟨(hge x hx).1, Nat.lt_of_lt_of_le (hge x hx).2 k.size⟩, j, d, T, h1.keepsE k hG, h2⟩
theorem WS.mono (h : WS B w1 E w c dp m V X) (hm : m ≤ m') : WS B w1 E w c dp m' V X := by
  obtain ⟨hF, hge, j, d, T, h1, h2, h3, h4⟩ := h
  exact ⟨hF, hge, j, d, T, h1, h2, h3, by omega⟩
theorem WS.boxes (h : WS B w1 [] w c dp m V X) (hb : Below w.heap.size w w') (E : List Nat) (hE : ∀ x ∈ E, w.heap.size ≤ x ∧ x < w'.heap.size) : WS B w1 E w' c dp m V X := by
  obtain ⟨hF, _, j, d, T, h1, h2⟩ := h
  exact ⟨hF.below hb, fun x hx => ⟨Nat.le_trans (Nat.le_trans hF.big hF.size) (hE x hx).1, (hE x hx).2⟩, j, d, T, (h1.ext (fun x hx => .inr (hE x hx).1)).below hb, h2⟩
theorem WS.begin (h : WS B w1 E w c dp m V none) : Calls Tryd.prog 12 #[.pointer (some ⟨c, 0, none⟩)] w fun e w' => e = .returned (.int .i64 0) ∧ WS B w1 E w' c dp m V tx0 ∧ Same E w w' := by
  obtain ⟨j, d, T, h1, h2⟩ := h.cq
  refine (cbegin_ok h.frE h1).mono ?_
  rintro e w' ⟨rfl, a, b⟩
  exact ⟨rfl, h.after a ⟨j, d, T, b, h2⟩⟩
theorem WS.write {hl : List Nat} {f : Nat → List Nat} (h : WS B w1 E w c dp m V (some (hl, f))) (K : Nat) (hK : K < 80) (hf : fullB hl (245 + K) = false) {g ty : Nat} {q : List Nat} (hg : Full w g ty q) (hq : q.length = 512) (hqb : ∀ i, q.getD i 0 < 256) :
    Calls Tryd.prog 13 #[.pointer (some ⟨c, 0, none⟩), .int .i64 (245 + (K : Int)), .slice (some ⟨g, 0, none⟩) 512 512] w fun e w' => e = .returned (.int .i64 0) ∧ WS B w1 E w' c dp m V (some (addK hl (245 + K), updK f (245 + K) q)) ∧ Same E w w' := by
  obtain ⟨j, d, T, h1, h2, h3, h4⟩ := h.cq
  have := cwrite_ok h.frE h1 h2 (245 + K) (by omega) (by omega) hf hg hq hqb
  rw [show ((245 + K : Nat) : Int) = 245 + (K : Int) by omega] at this
  refine this.mono ?_
  rintro e w' ⟨rfl, a, b⟩
  exact ⟨rfl, h.after a ⟨j, d, T, b, h2, h3, h4⟩⟩
/-- Commit: it is OK, or the power is gone. -/
def WPost (B : Nat) (w1 : World) (E : List Nat) (w : World) (c dp m : Nat) (V V' : Nat → List Nat) (cd : Int) (w' : World) : Prop :=
  Same E w w' ∧ ((cd = 0 ∧ WS B w1 E w' c dp (m + 395) V' none) ∨ (cd = 9 ∧ WG B w1 E w' dp V V'))
theorem WS.commit {hl : List Nat} {f : Nat → List Nat} (h : WS B w1 E w c dp m V (some (hl, f))) (hm : m ≤ 900000) : Calls Tryd.prog 16 #[.pointer (some ⟨c, 0, none⟩)] w fun e w' => ∃ cd, e = .returned (.int .i64 cd) ∧ WPost B w1 E w c dp m V (txV V (some (hl, f))) cd w' := by
  obtain ⟨j, d, T, h1, h2, h3, h4⟩ := h.cq
  refine (ccommit_ok h.frE h1 h2 (by omega)).mono ?_
  rintro e w' ⟨cd, rfl, q⟩
  refine ⟨cd, rfl, ?_⟩
  rcases q with ⟨rfl, a, d', T', b, r, n⟩ | ⟨rfl, a, d', T', b, sf, n, hcut⟩
  · exact ⟨a.same, .inl ⟨rfl, (h.after a ⟨j, d', T', b, r, by rw [n.n, h3], by have := n.ops; omega⟩).1⟩⟩
  · exact ⟨a.same, .inr ⟨rfl, h.fr.trans a (by simp), fun x hx => ⟨(h.ge x hx).1, a.ltw x hx⟩, d', b.jp.dev, sf, by rw [n.n, h3]⟩⟩
end
theorem cutJ {B : Nat} {E : List Nat} {w1 w : World} {j dp : Nat} {d : Dv} {T : List (List Nat)} {off : Bool} (hF : Fr B E w1 w) (hJ : JP B E w j dp d T off) (k : Int) (hk : k ≤ 9223372036854775807) :
    Calls Tryd.prog 22 #[.pointer (some ⟨dp, 0, none⟩), .int .i64 k] w fun e w' => (∃ v, e = .returned v) ∧ Fr B E w1 w' ∧ JP B E w' j dp (d.cutAt k) T off := by
  obtain ⟨FP, ⟨F, lb, rfl, hd, hj, h1, h2⟩, hFP⟩ := hJ
  refine (cutD hd k hk).mono ?_
  rintro e w' ⟨hv, F', hd', hkk, hg⟩
  obtain ⟨g1, g2⟩ := JP.step hF hj h1 h2 hFP hd' hkk hg
  exact ⟨hv, g1, g2⟩
theorem CS.cutC {B : Nat} {w1 w : World} {c dp m : Nat} {V : Nat → List Nat} {X : Tx} (h : CS B [] w1 w c dp m V X) (k : Int) (hk : k ≤ 9223372036854775807) : Calls Tryd.prog 22 #[.pointer (some ⟨dp, 0, none⟩), .int .i64 k] w fun e w' => (∃ v, e = .returned v) ∧ WS B w1 [] w' c dp m V X := by
  obtain ⟨hF, j, d, T, ⟨L, hC, hL, hJ⟩, h2, h3, h4, h5⟩ := h
  have hF' : Fr B (L ++ []) w w := Fr.start (fun x hx => by simp at hx; exact hC.lt x hx) (Nat.le_trans hF.big hF.size) hF.pos hF.tab
  refine (cutJ hF' hJ k hk).mono ?_
  rintro e w' ⟨hv, a, b⟩
  exact ⟨hv, hF.trans a (by simp), by simp, j, d.cutAt k, T, ⟨L, hC.blk (fun x hx => a.same x (by simp [hx])), hL, b⟩, (Like.cutAt d k).rest h2, h3, h5⟩
/-- Crash, Open, New: a cache on what is left. -/
def EndX (B : Nat) (w1 : World) (E : List Nat) (wr : World) (V : Nat → List Nat) (e : Ending) (w4 : World) : Prop := ∃ x c', e = .returned (.pointer (some ⟨x, 0, none⟩)) ∧ BS B w1 E w4 x c' 3 V none ∧ Same E wr w4
theorem whole_end {B : Nat} {w1 wr : World} {E : List Nat} {dp : Nat} {d : Dv} {T : List (List Nat)} {V : Nat → List Nat} (hF : Fr B [] w1 wr) (hE : ∀ x ∈ E, B ≤ x ∧ x < wr.heap.size) (hD : DP B E wr dp d) (a : Option Addr) (l : List Int) (cap : Nat) (hR : Rest (d.crash l) T V) (hn : d.n = 325) (hl : RowI wr a l) (hll : l.length ≤ 9223372036854775807) :
    Calls Tryd.prog 24 #[.pointer (some ⟨dp, 0, none⟩), .slice a l.length cap] wr fun e w2 => ∃ c', e = .returned (.pointer (some ⟨c', 0, none⟩)) ∧ Hid (Calls Tryd.prog 23 #[.pointer (some ⟨c', 0, none⟩)] w2 fun e w3 => ∃ j', e = .returned (.tuple #[.pointer (some ⟨j', 0, none⟩), .int .i64 0]) ∧ Hid (Calls Tryd.prog 25 #[.pointer (some ⟨j', 0, none⟩)] w3 (EndX B w1 E wr V))) := by
  have hFE : Fr B E wr wr := Fr.start (fun x hx => (hE x hx).2) (Nat.le_trans hF.big hF.size) hF.pos hF.tab
  refine (crashF hFE hD a l cap hl hll).mono ?_
  rintro e w2 ⟨c', rfl, f2, d2, _⟩
  refine ⟨c', rfl, (open_ok f2 d2 hR (on_uncut rfl) (Nat.lt_of_lt_of_le (show 0 < 1 by omega) (by omega))).mono ?_⟩
  rintro e w3 ⟨j', rfl, f3, j3, _⟩
  refine ⟨j', rfl, (cnewF f3 j3).mono ?_⟩
  rintro e w4 ⟨x, rfl, f4, c4, _⟩
  exact ⟨x, c', rfl, ⟨hF.trans f4 (by simp), fun y hy => ⟨(hE y hy).1, f4.ltw y hy⟩, j', _, _, c4, ((Like.tick _).rest hR).flush, hn, rfl, show 0 + 1 ≤ 3 by omega⟩, f4.same⟩
theorem WS.left {B : Nat} {w1 w : World} {E : List Nat} {c dp m : Nat} {V : Nat → List Nat} {X : Tx} (h : WS B w1 E w c dp m V X) (l : List Int) : ∃ d T, DP B E w dp d ∧ Rest (d.crash l) T V ∧ d.n = 325 := by
  obtain ⟨hF, hge, j, d, T, h1, h2, h3, h4⟩ := h
  obtain ⟨T', hR⟩ := h2.crash l
  exact ⟨d, T', h1.jp.dev, hR, h3⟩
theorem WG.left {B : Nat} {w1 w : World} {E : List Nat} {dp : Nat} {s t : Nat → List Nat} (h : WG B w1 E w dp s t) (l : List Int) : ∃ d T V, DP B E w dp d ∧ Rest (d.crash l) T V ∧ d.n = 325 ∧ (V = s ∨ V = t) := by
  obtain ⟨hF, hge, d, h1, h2, h3⟩ := h
  rcases h2.crash (by omega) l with ⟨T, hR⟩ | ⟨T, hR⟩
  · exact ⟨d, T, s, h1, hR, h3, .inl rfl⟩
  · exact ⟨d, T, t, h1, hR, h3, .inr rfl⟩
/-- CacheWhole between two transactions, and within one. -/
structure WAt (w wr : World) (c dp m sb : Nat) (V : Nat → List Nat) (X : Tx) (ss ts : List Int) : Prop where
  ws : WS w.heap.size w [sb, sb + 1] wr c dp m V X
  stl : Tells V ss
  tln : ts.length = 80
  ttl : X.isSome = true → Tells (txV V X) ts
  s : StB wr sb ss
  t : StB wr (sb + 1) ts
/-- Behind the loop: what a crash leaves tells ss or ts. -/
structure WEnd (w wr : World) (dp sb : Nat) (ss ts : List Int) (l : List Int) (V : Nat → List Nat) : Prop where
  fr : Fr w.heap.size [] w wr
  ge : ∀ x ∈ [sb, sb + 1], w.heap.size ≤ x ∧ x < wr.heap.size
  dq : ∃ d T, DP w.heap.size [sb, sb + 1] wr dp d ∧ Rest (d.crash l) T V ∧ d.n = 325
  sln : ss.length = 80
  tln : ts.length = 80
  s : StB wr sb ss
  t : StB wr (sb + 1) ts
theorem WAt.step {w wr w4 w5 : World} {c dp m sb K : Nat} {V : Nat → List Nat} {hl : List Nat} {f f' : Nat → List Nat} {ss ts : List Int} (h : WAt w wr c dp m sb V (some (hl, f)) ss ts) (hK : K < 80) (v : Int) (hf : f' = updK f (245 + K) (bb v)) (h5 : WS w.heap.size w [sb, sb + 1] w5 c dp m V (some (addK hl (245 + K), f'))) (hs : Same [sb, sb + 1] wr w5) :
    w5.cell? ⟨sb + 1, K, none⟩ = some (.int .i64 (ts.getD K 0)) ∧ w5.frozen? ⟨sb + 1, K, none⟩ = false ∧ WAt w (w5.setCell ⟨sb + 1, K, none⟩ (.int .i64 v)) c dp m sb V (some (addK hl (245 + K), f')) ss (ts.set K v) := by
  subst hf
  have t6 := h.t.blk (hs (sb + 1) (by simp))
  have s6 := h.s.blk (hs sb (by simp))
  obtain ⟨c1, c2⟩ := t6.cell h.tln K hK
  have k7 : Keeps [sb + 1] w5 (w5.setCell ⟨sb + 1, K, none⟩ (.int .i64 v)) := (Keeps.refl _ _).setCell _ _ (by simp)
  exact ⟨c1, c2, h5.keeps k7 (fun x hx => by simp at hx; simp [hx]), h.stl, by simp [h.tln], fun _ => (h.ttl rfl).write K hK v, s6.blk (heap_setCell_other _ _ _ _ (by show sb ≠ sb + 1; omega)), t6.set K v⟩
theorem WAt.begun {w wr w' : World} {c dp m sb : Nat} {V : Nat → List Nat} {ss ts : List Int} (h : WAt w wr c dp m sb V none ss ts) (h5 : WS w.heap.size w [sb, sb + 1] w' c dp m V tx0) (hs : Same [sb, sb + 1] wr w') : StB w' sb ss ∧ StB w' (sb + 1) ts ∧ WAt w (w'.setRow (sb + 1) (av ss)) c dp m sb V tx0 ss ss := by
  have t5 := h.t.blk (hs (sb + 1) (by simp))
  have s5 := h.s.blk (hs sb (by simp))
  have k : Keeps [sb + 1] w' (w'.setRow (sb + 1) (av ss)) := ⟨rfl, rfl, rfl, by simp, fun x hx hn => setRow_other _ _ _ _ (by simpa using hn)⟩
  exact ⟨s5, t5, h5.keeps k (fun x hx => by simp at hx; simp [hx]), h.stl, h.stl.1, fun _ => ⟨h.stl.1, fun k hk => by simpa [txV, tx0] using h.stl.2 k hk⟩, (setRow_other _ _ _ _ (by omega)).trans s5, setRow_heap _ _ _ _ _ _ t5⟩
theorem WAt.done {w wr w' : World} {c dp m sb : Nat} {V : Nat → List Nat} {hl : List Nat} {f : Nat → List Nat} {ss ts : List Int} (h : WAt w wr c dp m sb V (some (hl, f)) ss ts) (h5 : WS w.heap.size w [sb, sb + 1] w' c dp (m + 395) (txV V (some (hl, f))) none) (hs : Same [sb, sb + 1] wr w') : StB w' sb ss ∧ StB w' (sb + 1) ts ∧ WAt w (w'.setRow sb (av ts)) c dp (m + 395) sb (txV V (some (hl, f))) none ts ts := by
  have t5 := h.t.blk (hs (sb + 1) (by simp))
  have s5 := h.s.blk (hs sb (by simp))
  have k : Keeps [sb] w' (w'.setRow sb (av ts)) := ⟨rfl, rfl, rfl, by simp, fun x hx hn => setRow_other _ _ _ _ (by simpa using hn)⟩
  exact ⟨s5, t5, h5.keeps k (fun x hx => by simp at hx; simp [hx]), h.ttl rfl, h.tln, (fun q => by cases q), setRow_heap _ _ _ _ _ _ s5, (setRow_other _ _ _ _ (by omega)).trans t5⟩
/-- The power went within a Commit. -/
structure WOff (w wr : World) (dp sb : Nat) (ss ts : List Int) : Prop where
  wg : ∃ V V', WG w.heap.size w [sb, sb + 1] wr dp V V' ∧ Tells V ss ∧ Tells V' ts
  s : StB wr sb ss
  t : StB wr (sb + 1) ts
theorem WAt.off {w wr w' : World} {c dp m sb : Nat} {V : Nat → List Nat} {hl : List Nat} {f : Nat → List Nat} {ss ts : List Int} (h : WAt w wr c dp m sb V (some (hl, f)) ss ts) (h5 : WG w.heap.size w [sb, sb + 1] w' dp V (txV V (some (hl, f)))) (hs : Same [sb, sb + 1] wr w') : WOff w w' dp sb ss ts :=
  ⟨⟨V, _, h5, h.stl, h.ttl rfl⟩, h.s.blk (hs sb (by simp)), h.t.blk (hs (sb + 1) (by simp))⟩
theorem WOff.end {w wr : World} {dp sb : Nat} {ss ts : List Int} (h : WOff w wr dp sb ss ts) (l : List Int) : ∃ V, WEnd w wr dp sb ss ts l V ∧ (isB V ss = true ∨ (isB V ss = false ∧ isB V ts = true)) := by
  obtain ⟨⟨V, V', hg, h1, h2⟩, hs, ht⟩ := h
  obtain ⟨d, T, U, q1, q2, q3, q4⟩ := hg.left l
  refine ⟨U, ⟨hg.fr, hg.ge, ⟨d, T, q1, q2, q3⟩, h1.1, h2.1, hs, ht⟩, ?_⟩
  rcases q4 with rfl | rfl
  · exact .inl h1.is
  · cases hb : isB U ss with
    | true => exact .inl rfl
    | false => exact .inr ⟨rfl, h2.is⟩
theorem WAt.end {w wr : World} {c dp m sb : Nat} {V : Nat → List Nat} {ss ts : List Int} (h : WAt w wr c dp m sb V none ss ts) (l : List Int) : StB wr sb ss ∧ StB wr (sb + 1) ts ∧ WEnd w (wr.setRow (sb + 1) (av ss)) dp sb ss ss l V ∧ isB V ss = true := by
  have k : Keeps [sb + 1] wr (wr.setRow (sb + 1) (av ss)) := ⟨rfl, rfl, rfl, by simp, fun x hx hn => setRow_other _ _ _ _ (by simpa using hn)⟩
  have h5 := h.ws.keeps k (fun x hx => by simp at hx; simp [hx])
  obtain ⟨d, T, q1, q2, q3⟩ := h5.left l
  exact ⟨h.s, h.t, ⟨h5.fr, h5.ge, ⟨d, T, q1, q2, q3⟩, h.stl.1, h.stl.1, (setRow_other _ _ _ _ (by omega)).trans h.s, setRow_heap _ _ _ _ _ _ h.t⟩, h.stl.is⟩
end Go.Proofs.YtohncckmennfbaaDoor
