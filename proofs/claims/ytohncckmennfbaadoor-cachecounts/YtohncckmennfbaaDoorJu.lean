/- record: the steps one behind the other; its row of steps is made. -/
import Derived.Test.YtohncckmennfbaaDoorJr
namespace Go.Proofs.YtohncckmennfbaaDoor
set_option linter.unusedSimpArgs false
set_option linter.unusedVariables false
open Go.RowKit Go.MapKept Go.Proofs
/-- What changes make of a state. -/
def newS (s : Nat → List Nat) (hl : List Nat) (cs : List (List Nat)) : Nat → List Nat := fun k => if k ∈ hl then cs.getD (hl.idxOf k) [] else s k
def f60 (jb sb : Nat) (p : Nat × Nat) : Value := .func (.func 77) #[] #[.pointer (some ⟨jb, 0, none⟩), .pointer (some ⟨sb, 0, none⟩), .pointer (some ⟨p.1, 0, none⟩), .pointer (some ⟨p.2, 0, none⟩)]
/-- The boxes of a change's step, and its data. -/
structure RcBox (E : List Nat) (w : World) (i : Nat) (p : Nat × Nat) (g : Nat) (c : List Nat) : Prop where
  ib : p.1 ∈ E
  cb : p.2 ∈ E
  gE : g ∈ E
  ci : w.cell? ⟨p.1, 0, none⟩ = some (.int .i64 (i : Int))
  cc : w.cell? ⟨p.2, 1, none⟩ = some (.slice (some ⟨g, 0, none⟩) 512 512)
  full : Full w g 68 c
  len : c.length = 512
  lt : ∀ x, c.getD x 0 < 256
def RcA (B : Nat) (E : List Nat) (j dp : Nat) (d0 : Dv) (T : List (List Nat)) (s : Nat → List Nat) (cs : List (List Nat)) (i m : Nat) : World → Prop := fun w => ∃ d, JP B E w j dp d T false ∧ Ph d T s ∧ (∀ x, x < i → d.cur (1 + 60 * T.length + x) = cs.getD x []) ∧ Next d0 d m
theorem rc_chain {B : Nat} {E : List Nat} {w2 : World} {j dp jb sb : Nat} {d0 : Dv} {T : List (List Nat)} {s t : Nat → List Nat} {M : Nat} {cs : List (List Nat)} {gs : List Nat} (hjb : jb ∈ E) (cj : w2.cell? ⟨jb, 0, none⟩ = some (.pointer (some ⟨j, 0, none⟩))) (hsb : sb ∈ E) (csb : w2.cell? ⟨sb, 0, none⟩ = some (.int .i64 (T.length : Int))) (hM : d0.ops + M ≤ 1000000) (h4 : T.length < 4) :
    ∀ (l : List (Nat × Nat)) (i m : Nat), (∀ x, x < l.length → RcBox E w2 (i + x) (l.getD x (0, 0)) (gs.getD (i + x) 0) (cs.getD (i + x) [])) → m + l.length < M → i + l.length ≤ 60 →
      Chain (Fr B E w2) (BadJ B E w2 j dp d0 M s t) (l.map (f60 jb sb)) (RcA B E j dp d0 T s cs i m) (RcA B E j dp d0 T s cs (i + l.length) (m + l.length))
  | [], i, m, _, _, _ => .nil fun w _ h => by simpa using h
  | p :: l, i, m, hl, hm, h60 => by
    have hp := hl 0 (by simp)
    simp only [List.getD_cons_zero, Nat.add_zero] at hp
    have ih := rc_chain (B := B) (dp := dp) (d0 := d0) (s := s) (t := t) (cs := cs) (gs := gs) hjb cj hsb csb hM h4 l (i + 1) (m + 1) (fun x hx => by have := hl (x + 1) (by simpa using hx); rw [show i + 1 + x = i + (x + 1) by omega]; simpa using this) (by simp at hm; omega) (by simp at h60; omega)
    rw [show i + 1 + l.length = i + (p :: l).length by simp; omega, show m + 1 + l.length = m + (p :: l).length by simp; omega] at ih
    refine .cons (Q := RcA B E j dp d0 T s cs (i + 1) (m + 1)) ⟨77, _, _, rfl, enters60, fun w hF hA => ?_⟩ ih
    obtain ⟨d, ⟨FP, hJo, hFP⟩, hPh, hdone, hN⟩ := hA
    obtain ⟨F, lb, rfl, hd, hj, h1, h2⟩ := id hJo
    have hlt : d.ops < 1000000 := by have := hN.ops; simp at hm; omega
    have hi60 : i < 60 := by simp at h60; omega
    have hDn : 1 + 60 * T.length + i < d.n := by have := hPh.n246; omega
    have hfull : Full w (gs.getD i 0) 68 (cs.getD i []) := hp.full.blk (hF.same _ hp.gE)
    have hnF : ∀ x ∈ [j, jb, sb, p.1, p.2], x ∉ F := fun x hx q => by
      have hx' : x = j ∨ x ∈ E := by
        simp only [List.mem_cons, List.not_mem_nil, or_false] at hx
        rcases hx with rfl | rfl | rfl | rfl | rfl
        · exact .inl rfl
        · exact .inr hjb
        · exact .inr hsb
        · exact .inr hp.ib
        · exact .inr hp.cb
      rcases hx' with rfl | a
      · exact h1 q
      · exact (hFP x (by simp [q])).2 a
    refine (rc1_any (g := gs.getD i 0) (c := cs.getD i []) hd ⟨(hF.box hjb).trans cj, hj.c.1, (hF.box hsb).trans csb, (hF.box hp.ib).trans hp.ci, (hF.box hp.cb).trans hp.cc⟩ hnF hfull hp.len hp.lt (by omega) (by omega) hlt).mono ?_
    rintro e w' ⟨rfl, F', hd', hk, hg⟩
    obtain ⟨g1, g2⟩ := JP.step hF hj h1 h2 hFP hd' hk hg
    cases hon : d.on with
    | true =>
      rw [wrote_on hon hDn hp.len] at g2
      refine ⟨_, rfl, .inl ⟨wcode_on hon hDn, g1, _, g2, ?_, fun x hx => ?_, hN.trans (Next.add d _ _) (Nat.le_refl _)⟩⟩
      · refine ((Like.tick d).ph hPh).add (by omega) (fun x hx1 hx2 => ?_)
        rcases find_cases hPh.good x with ⟨e, hno⟩ | ⟨q', hq', hk', e⟩
        · rw [e]; omega
        · have := dat_lt hPh.good hk'; rw [e]; omega
      · rw [cur_add]
        by_cases e : x = i
        · rw [e, if_pos rfl]
        · rw [if_neg (by omega)]
          exact hdone x (by omega)
    | false =>
      rw [wrote_off hon] at g2
      exact ⟨_, rfl, .inr ⟨wcode_off hon, g1, _, T, g2, (Like.tick d).safe (hPh.safe t), (hN.trans (Next.tick d) (Nat.le_refl _)).mono (by simp at hm; omega), show d.cut = true from off_cut hon⟩⟩
theorem ready_new {d : Dv} {T : List (List Nat)} {s : Nat → List Nat} {hl : List Nat} {cs : List (List Nat)} (hR : Rest d T s) (h4 : T.length < 4) (hne : hl ≠ []) (h60 : hl.length ≤ 60) (hnd : hl.Nodup) (hh : ∀ k ∈ hl, 245 ≤ k ∧ k < d.n) (hb : ∀ x, x < hl.length → d.base (1 + 60 * T.length + x) = cs.getD x []) : Ready d (T ++ [hl]) (newS s hl cs) := by
  refine ⟨hR.ph.good.app h4 hne h60 hnd hh, fun k h1 h2 => ?_⟩
  rw [find_app]
  unfold newS
  by_cases hk : k ∈ hl
  · rw [if_pos hk, if_pos hk]
    exact hb _ (List.idxOf_lt_length_iff.2 hk)
  · rw [if_neg hk, if_neg hk]
    exact (hR.ph.view k h1 h2).1
/-- The whole of record. -/
theorem record_chain {B : Nat} {E : List Nat} {w2 : World} {j dp jb sb lx lk cap n : Nat} {d0 : Dv} {T : List (List Nat)} {s : Nat → List Nat} {M m : Nat} {cs : List (List Nat)} {gs hl : List Nat} {ds : List Value} (hjb : jb ∈ E) (cj : w2.cell? ⟨jb, 0, none⟩ = some (.pointer (some ⟨j, 0, none⟩))) (hsb : sb ∈ E) (csb : w2.cell? ⟨sb, 0, none⟩ = some (.int .i64 (T.length : Int))) (hlx : lx ∈ E) (clx : w2.cell? ⟨lx, 0, none⟩ = some (.slice (some ⟨lk, 0, none⟩) hl.length cap)) (hlk : lk ∈ E) (hrow : ChRow w2 lk hl ds)
    (hM : d0.ops + M ≤ 1000000) (h4 : T.length < 4) (l : List (Nat × Nat)) (hll : l.length = hl.length) (hl0 : ∀ x, x < l.length → RcBox E w2 x (l.getD x (0, 0)) (gs.getD x 0) (cs.getD x [])) (hne : hl ≠ []) (h60 : hl.length ≤ 60) (hnd : hl.Nodup) (hh : ∀ k ∈ hl, 245 ≤ k ∧ k < n) (hn : d0.n = n) (hm : m + hl.length + 3 ≤ M) :
    Chain (Fr B E w2) (BadJ B E w2 j dp d0 M s (newS s hl cs)) (l.map (f60 jb sb) ++ [.func (.func 39) #[.pointer (some ⟨dp, 0, none⟩)] #[], .func (.func 78) #[] #[.pointer (some ⟨jb, 0, none⟩), .pointer (some ⟨lx, 0, none⟩), .pointer (some ⟨sb, 0, none⟩)]])
      (fun w => ∃ d, JP B E w j dp d T false ∧ Rest d T s ∧ Next d0 d m) (fun w => ∃ d, JP B E w j dp d (T ++ [hl]) false ∧ Rest d (T ++ [hl]) (newS s hl cs) ∧ Next d0 d (m + hl.length + 3)) := by
  have c1 := rc_chain (B := B) (dp := dp) (d0 := d0) (s := s) (t := newS s hl cs) (cs := cs) (gs := gs) hjb cj hsb csb hM h4 l 0 m (fun x hx => by rw [Nat.zero_add]; exact hl0 x hx) (by omega) (by omega)
  rw [Nat.zero_add, hll] at c1
  have c0 : Chain (Fr B E w2) (BadJ B E w2 j dp d0 M s (newS s hl cs)) [] (fun w => ∃ d, JP B E w j dp d T false ∧ Rest d T s ∧ Next d0 d m) (RcA B E j dp d0 T s cs 0 m) := .nil fun w _ ⟨d, h1, h2, h3⟩ => ⟨d, h1, h2.ph, by intro x hx; omega, h3⟩
  refine (c0.append c1).append ?_
  refine .cons (Q := fun w => ∃ d, JP B E w j dp d T false ∧ Rest d T s ∧ (∀ x, x < hl.length → d.base (1 + 60 * T.length + x) = cs.getD x []) ∧ Next d0 d (m + hl.length + 1)) ⟨39, _, _, rfl, enters34, fun w hF hA => ?_⟩
    (.cons (Q := fun w => ∃ d, JP B E w j dp d (T ++ [hl]) false ∧ Rest d (T ++ [hl]) (newS s hl cs) ∧ Next d0 d (m + hl.length + 3)) ⟨78, _, _, rfl, enters62, fun w hF hA => ?_⟩ (.nil fun _ _ h => h))
  · obtain ⟨d, ⟨FP, hJo, hFP⟩, hPh, hdone, hN⟩ := hA
    obtain ⟨F, lb, rfl, hd, hj, h1, h2⟩ := id hJo
    refine (flushD hd (by have := hN.ops; omega)).mono ?_
    rintro e w' ⟨rfl, F', hd', hk, hg⟩
    obtain ⟨g1, g2⟩ := JP.step hF hj h1 h2 hFP hd' hk hg
    cases hon : d.on with
    | true =>
      rw [flushed_on hon] at g2
      exact ⟨_, rfl, .inl ⟨by simp, g1, _, g2, ((Like.tick d).ph hPh).flush, fun x hx => hdone x hx, hN.trans (Next.flush d) (Nat.le_refl _)⟩⟩
    | false =>
      rw [flushed_off hon] at g2
      exact ⟨_, rfl, .inr ⟨by simp, g1, _, T, g2, (Like.tick d).safe (hPh.safe _), (hN.trans (Next.tick d) (Nat.le_refl _)).mono (by omega), show d.cut = true from off_cut hon⟩⟩
  · obtain ⟨d, hJ, hR, hb, hN⟩ := hA
    have hY := ready_new hR h4 hne h60 hnd (fun k hk => by rw [hN.n, hn]; exact hh k hk) hb
    refine (rc2_any hF hJ ((hF.box hjb).trans cj) ((hF.box hlx).trans clx) ((hF.box hsb).trans csb) (hrow.blk (hF.same _ hlk)) hne hnd h60 h4 hR hY (by have := hN.ops; omega)).mono ?_
    intro e w' h
    exact h.mono (fun ⟨a, d', b, c, e⟩ => ⟨a, d', b, c, hN.trans e (by omega)⟩) (fun ⟨a, d', T'', b, c, e, f⟩ => ⟨a, d', T'', b, c, (hN.trans e (Nat.le_refl _)).mono (by omega), f⟩)
end Go.Proofs.YtohncckmennfbaaDoor
