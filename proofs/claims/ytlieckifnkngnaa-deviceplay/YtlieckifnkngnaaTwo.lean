/- Both devices, the program's and the document's, apart from one another. -/
import Derived.Test.YtlieckifnkngnaaRy
namespace Go.Proofs.Ytlieckifnkngnaa
set_option linter.unusedSimpArgs false
set_option linter.unusedVariables false
open Go.RowKit Go.MapKept
/-- The blocks E are neither's. -/
def Two (B : Nat) (w : World) (p : Nat) (dp : Dv) (q : Nat) (dr : Dv) (E : List Nat) : Prop :=
  ∃ gB cB gP cP bs ps rs G last, Fam B w (E ++ G) [(p, dp)] ∧ RefAt B w q gB cB gP cP bs ps rs G dr last ∧ B ≤ w.heap.size ∧ ∀ x ∈ E, x ∉ G ∧ x < w.heap.size
section
variable {B : Nat} {w w' : World} {p q g : Nat} {dp dr d : Dv} {c : List Nat} {E : List Nat}
theorem Two.below (h : Two B w p dp q dr E) (hb : Below w.heap.size w w') : Two B w' p dp q dr E := by
  obtain ⟨gB, cB, gP, cP, bs, ps, rs, G, last, hF, hR, hB, hE⟩ := h
  exact ⟨gB, cB, gP, cP, bs, ps, rs, G, last, hF.below hb, hR.below hb, by have := hb.size; omega, fun x hx => ⟨(hE x hx).1, by have := (hE x hx).2; have := hb.size; omega⟩⟩
theorem Two.add (h : Two B w p dp q dr E) (hb : Below w.heap.size w w') (hg : w.heap.size ≤ g) (hg2 : g < w'.heap.size) : Two B w' p dp q dr (g :: E) := by
  obtain ⟨gB, cB, gP, cP, bs, ps, rs, G, last, hF, hR, hB, hE⟩ := h
  refine ⟨gB, cB, gP, cP, bs, ps, rs, G, last, hF.cons hb g hg, hR.below hb, by have := hb.size; omega, fun x hx => ?_⟩
  rcases List.mem_cons.1 hx with rfl | a
  · exact ⟨fun hx => by have := (hR.glt x hx).2; omega, hg2⟩
  · exact ⟨(hE x a).1, by have := (hE x a).2; have := hb.size; omega⟩
theorem Two.drop (h : Two B w p dp q dr E) {E' : List Nat} (hs : ∀ x ∈ E', x ∈ E) : Two B w p dp q dr E' := by
  obtain ⟨gB, cB, gP, cP, bs, ps, rs, G, last, hF, hR, hB, hE⟩ := h
  refine ⟨gB, cB, gP, cP, bs, ps, rs, G, last, hF.mono fun x hx => .inl ?_, hR, hB, fun x hx => hE x (hs x hx)⟩
  rcases List.mem_append.1 hx with a | a
  · exact List.mem_append.2 (.inl (hs x a))
  · exact List.mem_append.2 (.inr a)
theorem Same.below (hE : ∀ x ∈ E, x < w.heap.size) (hb : Below w.heap.size w w') : Same E w w' := fun x hx => hb.block x (hE x hx)
theorem Two.lt (h : Two B w p dp q dr E) : ∀ x ∈ E, x < w.heap.size := by
  obtain ⟨gB, cB, gP, cP, bs, ps, rs, G, last, hF, hR, hB, hE⟩ := h
  exact fun x hx => (hE x hx).2
theorem fam_re' {G G' : List Nat} {l : List (Nat × Dv)} (h : Fam B w G l) (k : Keeps G w w') (hs : ∀ x ∈ G', x ∈ G ∨ w.heap.size ≤ x) : Fam B w' G' l := by
  have h1 : Fam B w (G ++ G') l := h.mono fun x hx => by
    rcases List.mem_append.1 hx with a | a
    · exact .inl a
    · exact hs x a
  have h2 := h1.keeps (k.mono fun x hx => .inl (List.mem_append.2 (.inl hx)))
  exact h2.mono fun x hx => .inl (List.mem_append.2 (.inr hx))
theorem fam_re {G G' : List Nat} {l : List (Nat × Dv)} (h : Fam B w (E ++ G) l) (k : Keeps G w w') (hs : ∀ x ∈ G', x ∈ G ∨ w.heap.size ≤ x) : Fam B w' (E ++ G') l :=
  fam_re' h (k.mono fun x hx => .inl (List.mem_append.2 (.inr hx))) fun x hx => by
    rcases List.mem_append.1 hx with a | a
    · exact .inl (List.mem_append.2 (.inl a))
    · exact (hs x a).imp (fun b => List.mem_append.2 (.inr b)) id
theorem eout {G G' : List Nat} (hE : ∀ x ∈ E, x ∉ G ∧ x < w.heap.size) (k : Keeps G w w') (hs : ∀ x ∈ G', x ∈ G ∨ w.heap.size ≤ x) : (∀ x ∈ E, x ∉ G' ∧ x < w'.heap.size) ∧ Same E w w' := by
  refine ⟨fun x hx => ⟨fun hg => ?_, by have := (hE x hx).2; have := k.size; omega⟩, fun x hx => k.block x (hE x hx).2 (hE x hx).1⟩
  rcases hs x hg with a | a
  · exact (hE x hx).1 a
  · have := (hE x hx).2; omega
theorem eG {G : List Nat} (hE : ∀ x ∈ E, x ∉ G ∧ x < w.heap.size) (hG : ∀ x ∈ G, x < w.heap.size) : ∀ x ∈ E ++ G, x < w.heap.size := fun x hx => by
  rcases List.mem_append.1 hx with a | a
  · exact (hE x a).2
  · exact hG x a
theorem same_l {G : List Nat} (h : Same (E ++ G) w w') : Same E w w' := fun x hx => h x (List.mem_append.2 (.inl hx))
theorem same_r {G : List Nat} (h : Same (E ++ G) w w') : Same G w w' := fun x hx => h x (List.mem_append.2 (.inr hx))
theorem ref_below {gB cB gP cP : Nat} {bs ps : List Value} {rs : Nat → List Value} {G : List Nat} {last : Int} (hR : RefAt B w q gB cB gP cP bs ps rs G dr last) (hB : B ≤ w.heap.size) (k : Keeps G w w') : Below B w w' := k.below (fun x hx => (hR.glt x hx).1) hB
theorem two_w (h : Two B w p dp q dr E) (hg : g ∈ E) (hc : Full w g 5 c) (k : Int) (hb : ∀ i, c.getD i 0 < 256) (hlen : c.length ≤ 1000000) (ho : dp.ops < 1000000) :
    Calls Try.prog 22 #[.pointer (some ⟨p, 0, none⟩), .int .i64 k, .slice (some ⟨g, 0, none⟩) c.length c.length] w fun e w' => e = .returned (.int .i64 (dp.wcode k c.length)) ∧ Two B w' p (dp.wrote k c) q dr E ∧ Same E w w' ∧ Below B w w' := by
  obtain ⟨gB, cB, gP, cP, bs, ps, rs, G, last, hF, hR, hB, hE⟩ := h
  refine (famW hF (eG hE fun x hx => (hR.glt x hx).2) hB k g c hc hb hlen ho).mono ?_
  rintro e w' ⟨rfl, hF', hS, hBel, hz⟩
  exact ⟨rfl, ⟨gB, cB, gP, cP, bs, ps, rs, G, last, hF', hR.blk (same_r hS) hz, by omega, fun x hx => ⟨(hE x hx).1, by have := (hE x hx).2; omega⟩⟩, same_l hS, hBel⟩
theorem two_r (h : Two B w p dp q dr E) (hg : g ∈ E) (hc : Full w g 5 c) (k : Int) (hb : ∀ i, c.getD i 0 < 256) (hlen : c.length ≤ 1000000) (ho : dr.ops < 1000000) :
    Calls Try.prog 29 #[.pointer (some ⟨q, 0, none⟩), .int .i64 k, .slice (some ⟨g, 0, none⟩) c.length c.length] w fun e w' => e = .returned (.int .i64 (dr.wcode k c.length)) ∧ Two B w' p dp q (dr.wrote k c) E ∧ Same E w w' ∧ Below B w w' := by
  obtain ⟨gB, cB, gP, cP, bs, ps, rs, G, last, hF, hR, hB, hE⟩ := h
  have hgG := (hE g hg).1
  cases hon : dr.on with
  | false =>
    refine (refWrite_off hR ho hon k _).mono ?_
    rintro e w' ⟨rfl, hR', hk⟩
    exact ⟨by simp [Dv.wcode, hon], ⟨gB, cB, gP, cP, bs, ps, rs, G, last, fam_re hF hk (fun x hx => .inl hx), by simpa [Dv.wrote, hon] using hR', by have := hk.size; omega, (eout hE hk (fun x hx => .inl hx)).1⟩, (eout hE hk (fun x hx => .inl hx)).2, ref_below hR hB hk⟩
  | true =>
    by_cases hok : hasB dr.n k = true ∧ c.length = 512
    · obtain ⟨h1, h2⟩ := hok
      have hk0 : 0 ≤ k ∧ k < (dr.n : Int) := by simpa [hasB] using h1
      obtain ⟨j, rfl⟩ : ∃ j : Nat, k = (j : Int) := ⟨k.toNat, by omega⟩
      have := refWrite_ok hR ho hon j (by omega) ⟨g, 0, none⟩ c.length c (hc.row hb) h2 hb hgG hc.lt hB
      rw [h2] at this ⊢
      refine this.mono ?_
      rintro e w' ⟨rfl, ⟨ps', rs', G', hR', hG'⟩, hk⟩
      refine ⟨by simp [Dv.wcode, hon, h1], ⟨gB, cB, gP, cP, bs, ps', rs', G', last, fam_re hF hk hG', by simpa [Dv.wrote, hon, h1, h2] using hR', by have := hk.size; omega, (eout hE hk hG').1⟩, (eout hE hk hG').2, ref_below hR hB hk⟩
    · have hbad : hasB dr.n k = false ∨ c.length ≠ 512 := by
        cases hh : hasB dr.n k with
        | false => exact .inl rfl
        | true => exact .inr fun e => hok ⟨hh, e⟩
      refine (refWrite_bad hR ho hon k _ c.length _ hbad hlen).mono ?_
      rintro e w' ⟨rfl, hR', hk⟩
      have hx : (hasB dr.n k && c.length == 512) = false := by
        rcases hbad with a | a
        · simp [a]
        · simp [a]
      exact ⟨by simp [Dv.wcode, hon, hx], ⟨gB, cB, gP, cP, bs, ps, rs, G, last, fam_re hF hk (fun x hx => .inl hx), by simpa [Dv.wrote, hon, hx] using hR', by have := hk.size; omega, (eout hE hk (fun x hx => .inl hx)).1⟩, (eout hE hk (fun x hx => .inl hx)).2, ref_below hR hB hk⟩
theorem two_f (h : Two B w p dp q dr E) (ho : dp.ops < 1000000) :
    Calls Try.prog 23 #[.pointer (some ⟨p, 0, none⟩)] w fun e w' => e = .returned (.int .i64 (if dp.on then 0 else 9)) ∧ Two B w' p dp.flushed q dr E ∧ Same E w w' ∧ Below B w w' := by
  obtain ⟨gB, cB, gP, cP, bs, ps, rs, G, last, hF, hR, hB, hE⟩ := h
  refine (famF hF (eG hE fun x hx => (hR.glt x hx).2) hB ho).mono ?_
  rintro e w' ⟨rfl, hF', hS, hBel, hz⟩
  exact ⟨rfl, ⟨gB, cB, gP, cP, bs, ps, rs, G, last, hF', hR.blk (same_r hS) hz, by omega, fun x hx => ⟨(hE x hx).1, by have := (hE x hx).2; omega⟩⟩, same_l hS, hBel⟩
theorem two_rf (h : Two B w p dp q dr E) (ho : dr.ops < 1000000) :
    Calls Try.prog 30 #[.pointer (some ⟨q, 0, none⟩)] w fun e w' => e = .returned (.int .i64 (if dr.on then 0 else 9)) ∧ Two B w' p dp q dr.flushed E ∧ Same E w w' ∧ Below B w w' := by
  obtain ⟨gB, cB, gP, cP, bs, ps, rs, G, last, hF, hR, hB, hE⟩ := h
  cases hon : dr.on with
  | false =>
    refine (refFlush_off hR ho hon).mono ?_
    rintro e w' ⟨rfl, hR', hk⟩
    exact ⟨rfl, ⟨gB, cB, gP, cP, bs, ps, rs, G, last, fam_re hF hk (fun x hx => .inl hx), by simpa [Dv.flushed, hon] using hR', by have := hk.size; omega, (eout hE hk (fun x hx => .inl hx)).1⟩, (eout hE hk (fun x hx => .inl hx)).2, ref_below hR hB hk⟩
  | true =>
    refine (refFlush_on hR ho hon).mono ?_
    rintro e w' ⟨rfl, ⟨bs', ps', rs', hR'⟩, hk⟩
    exact ⟨rfl, ⟨gB, cB, gP, cP, bs', ps', rs', G, last, fam_re hF hk (fun x hx => .inl hx), by simpa [Dv.flushed, hon] using hR', by have := hk.size; omega, (eout hE hk (fun x hx => .inl hx)).1⟩, (eout hE hk (fun x hx => .inl hx)).2, ref_below hR hB hk⟩
theorem two_cut (h : Two B w p dp q dr E) (k : Int) (hk : k ≤ 9223372036854775807) :
    Calls Try.prog 21 #[.pointer (some ⟨p, 0, none⟩), .int .i64 k] w fun e w' => (∃ v, e = .returned v) ∧ Two B w' p (dp.cutAt k) q dr E ∧ Same E w w' ∧ Below B w w' := by
  obtain ⟨gB, cB, gP, cP, bs, ps, rs, G, last, hF, hR, hB, hE⟩ := h
  refine (famCut hF (eG hE fun x hx => (hR.glt x hx).2) hB k hk).mono ?_
  rintro e w' ⟨he, hF', hS, hBel, hz⟩
  exact ⟨he, ⟨gB, cB, gP, cP, bs, ps, rs, G, last, hF', hR.blk (same_r hS) hz, by omega, fun x hx => ⟨(hE x hx).1, by have := (hE x hx).2; omega⟩⟩, same_l hS, hBel⟩
theorem two_rcut (h : Two B w p dp q dr E) (ho : dr.ops < 1000000) (k : Int) (hk : k ≤ 9223372036854775807) :
    Calls Try.prog 31 #[.pointer (some ⟨q, 0, none⟩), .int .i64 k] w fun e w' => (∃ v, e = .returned v) ∧ Two B w' p dp q (dr.cutAt k) E ∧ Same E w w' ∧ Below B w w' := by
  obtain ⟨gB, cB, gP, cP, bs, ps, rs, G, last, hF, hR, hB, hE⟩ := h
  refine (refCut_any hR ho k hk).mono ?_
  rintro e w' ⟨he, ⟨last', hR'⟩, hk⟩
  exact ⟨he, ⟨gB, cB, gP, cP, bs, ps, rs, G, last', fam_re hF hk (fun x hx => .inl hx), hR', by have := hk.size; omega, (eout hE hk (fun x hx => .inl hx)).1⟩, (eout hE hk (fun x hx => .inl hx)).2, ref_below hR hB hk⟩
theorem two_c (h : Two B w p dp q dr E) (a : Option Addr) (l : List Int) (cap : Nat) (hl : RowI w a l) (hll : l.length ≤ 9223372036854775807) :
    Calls Try.prog 25 #[.pointer (some ⟨p, 0, none⟩), .slice a l.length cap] w fun e w' => ∃ p', e = .returned (.pointer (some ⟨p', 0, none⟩)) ∧ Two B w' p' (dp.crash l) q dr E ∧ Below w.heap.size w w' := by
  obtain ⟨gB, cB, gP, cP, bs, ps, rs, G, last, hF, hR, hB, hE⟩ := h
  refine (famC hF (eG hE fun x hx => (hR.glt x hx).2) hB a l cap hl hll).mono ?_
  rintro e w' ⟨p', rfl, hF', hBel⟩
  exact ⟨p', rfl, ⟨gB, cB, gP, cP, bs, ps, rs, G, last, hF'.swap.tail, hR.below hBel, by have := hBel.size; omega, fun x hx => ⟨(hE x hx).1, by have := (hE x hx).2; have := hBel.size; omega⟩⟩, hBel⟩
theorem two_rc (h : Two B w p dp q dr E) (a : Option Addr) (l : List Int) (cap : Nat) (hl : RowI w a l) (hll : l.length ≤ 9223372036854775807) :
    Calls Try.prog 32 #[.pointer (some ⟨q, 0, none⟩), .slice a l.length cap] w fun e w' => ∃ q', e = .returned (.pointer (some ⟨q', 0, none⟩)) ∧ Two B w' p dp q' (dr.crash l) E ∧ Below w.heap.size w w' := by
  obtain ⟨gB, cB, gP, cP, bs, ps, rs, G, last, hF, hR, hB, hE⟩ := h
  refine (refCrash_any hR hB a l cap hl hll).mono ?_
  rintro e w' ⟨q', gB', cB', gP', cP', bs', ps', rs', G', rfl, hR', hG', hBel⟩
  exact ⟨q', rfl, ⟨gB', cB', gP', cP', bs', ps', rs', G', -1, (fam_re hF (Keeps.of_below hBel G) hG'), hR', by have := hBel.size; omega, (eout hE (Keeps.of_below hBel G) hG').1⟩, hBel⟩
theorem two_y (h : Two B w p dp q dr E) :
    Calls Try.prog 26 #[.pointer (some ⟨p, 0, none⟩)] w fun e w' => ∃ p', e = .returned (.pointer (some ⟨p', 0, none⟩)) ∧ Two B w' p' dp q dr E ∧ Below w.heap.size w w' := by
  obtain ⟨gB, cB, gP, cP, bs, ps, rs, G, last, hF, hR, hB, hE⟩ := h
  refine (famCopy hF (eG hE fun x hx => (hR.glt x hx).2) hB).mono ?_
  rintro e w' ⟨p', rfl, hF', hBel⟩
  exact ⟨p', rfl, ⟨gB, cB, gP, cP, bs, ps, rs, G, last, hF'.swap.tail, hR.below hBel, by have := hBel.size; omega, fun x hx => ⟨(hE x hx).1, by have := (hE x hx).2; have := hBel.size; omega⟩⟩, hBel⟩
theorem two_ry (h : Two B w p dp q dr E) :
    Calls Try.prog 33 #[.pointer (some ⟨q, 0, none⟩)] w fun e w' => ∃ q', e = .returned (.pointer (some ⟨q', 0, none⟩)) ∧ Two B w' p dp q' dr E ∧ Below w.heap.size w w' := by
  obtain ⟨gB, cB, gP, cP, bs, ps, rs, G, last, hF, hR, hB, hE⟩ := h
  refine (refCopy_any hR hB).mono ?_
  rintro e w' ⟨q', gB', cB', gP', cP', bs', ps', rs', G', rfl, hR', hG', hBel⟩
  exact ⟨q', rfl, ⟨gB', cB', gP', cP', bs', ps', rs', G', last, (fam_re hF (Keeps.of_below hBel G) hG'), hR', by have := hBel.size; omega, (eout hE (Keeps.of_below hBel G) hG').1⟩, hBel⟩
end
end Go.Proofs.Ytlieckifnkngnaa
