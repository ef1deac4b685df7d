/- What is said of a partition's batches, and of a Log that has seen some of them: it finds nothing. -/
import Derived.Test.YtnnljdnaipjoiaaQt
namespace Go.Proofs.Ytnnljdnaipjoiaa
set_option linter.unusedSimpArgs false
set_option linter.unusedVariables false
/-- R: the record at each offset; Q: the Base of each Seq; N: what comes next; i: the next Seq. -/
structure Good (R : Int → Rc) (Q : Int → Int) (N i : Int) (L : List Sg) : Prop where
  rise : (bsOf (flatB L)).Pairwise (fun a b => a.base + a.span ≤ b.base)
  each : ∀ b ∈ bsOf (flatB L), 0 ≤ b.base ∧ b.span = 2 ∧ b.base + b.span ≤ N ∧ b.prod = 1 ∧ Q b.seq = b.base ∧ b.seq < i ∧ ∀ r ∈ b.rs, 0 ≤ r.o ∧ r.o < 2 ∧ R (b.base + r.o) = r.own ∧ r.k.size ≤ 20000 ∧ r.v.size ≤ 20000
  nx : nextS (lastS L) = N
  bases : ∀ j k, j ≤ k → k < L.length → (L.getD j sgz).base ≤ (L.getD k sgz).base
  top : ∀ j, j < L.length → 0 ≤ (L.getD j sgz).base ∧ (L.getD j sgz).base ≤ N
  N0 : 0 ≤ N
  N1 : N ≤ 2 * i
/-- What a Log may know of it. -/
structure Kn (R : Int → Rc) (Q : Int → Int) (st N i : Int) (S : LS) : Prop where
  bn : ∀ k q, S.bn k = some q → q.1 ≤ st ∧ q.2 ≤ N
  rc : ∀ k v, S.rc k = some v → v = R k.2.2 ∧ k.2.2 < N
  bs : ∀ k v, S.bs k = some v → v = Q k.2.2.2 ∧ k.2.2.2 < i
theorem Kn.zero (R : Int → Rc) (Q : Int → Int) (st N i : Int) : Kn R Q st N i ls0 := ⟨(fun k q h => by cases h), (fun k v h => by cases h), (fun k v h => by cases h)⟩
theorem Kn.on {R R' : Int → Rc} {Q Q' : Int → Int} {st st' N N' i i' : Int} {S : LS} (h : Kn R Q st N i S) (hs : st ≤ st') (hN : N ≤ N') (hi : i ≤ i') (hR : ∀ o, o < N → R' o = R o) (hQ : ∀ q, q < i → Q' q = Q q) : Kn R' Q' st' N' i' S := by
  refine ⟨fun k q e => ?_, fun k v e => ?_, fun k v e => ?_⟩
  · have := h.bn k q e; omega
  · obtain ⟨q1, q2⟩ := h.rc k v e
    exact ⟨by rw [hR _ q2]; exact q1, by omega⟩
  · obtain ⟨q1, q2⟩ := h.bs k v e
    exact ⟨by rw [hQ _ q2]; exact q1, by omega⟩
theorem agrs_fun {κ ν : Type} [DecidableEq κ] (e : ν → ν → Bool) (f : κ → ν) (P : κ → Prop) (he : ∀ v, e v v = true) (K : κ → Option ν) (hK : ∀ k u, K k = some u → u = f k ∧ P k) : ∀ (l : List (κ × ν)) (F : κ → Option ν), (∀ x ∈ l, x.2 = f x.1 ∧ P x.1) → (∀ k u, F k = some u → u = f k ∧ P k) → ∃ G, agrs e K l F = some G ∧ ∀ k u, G k = some u → u = f k ∧ P k
  | [], F, _, hF => ⟨F, rfl, hF⟩
  | (k, v) :: r, F, hl, hF => by
    obtain ⟨hv, hp⟩ := hl (k, v) (List.mem_cons_self ..)
    simp only at hv hp
    show ∃ G, (agr e K F k v).bind (agrs e K r) = some G ∧ _
    have h1 : ∃ G, agr e K F k v = some G ∧ ∀ k u, G k = some u → u = f k ∧ P k := by
      unfold agr
      cases hc : (K k).or (F k) with
      | some u =>
        have hu : u = f k := by
          cases hk : K k with
          | some u2 => rw [hk] at hc; simp at hc; rw [← hc]; exact (hK k u2 hk).1
          | none => rw [hk] at hc; simp at hc; exact (hF k u hc).1
        simp only
        rw [hu, ← hv, he]
        exact ⟨F, by simp, hF⟩
      | none =>
        refine ⟨_, rfl, fun x u hx => ?_⟩
        by_cases hxk : x = k
        · rw [if_pos hxk] at hx
          simp at hx
          rw [hxk, ← hx]
          exact ⟨hv, hp⟩
        · rw [if_neg hxk] at hx
          exact hF x u hx
    obtain ⟨G, g1, g2⟩ := h1
    rw [g1]
    exact agrs_fun e f P he K hK r G (fun x hx => hl x (List.mem_cons_of_mem _ hx)) g2
theorem bsOf_sub {a b : List Bs} (h : List.Sublist a b) : List.Sublist (bsOf a) (bsOf b) := h.map _
/-- A Log that knows but what is so finds nothing. -/
theorem saw_fine {R : Int → Rc} {Q : Int → Int} {N i st from' : Int} {L : List Sg} {S : LS} {acc : List Bs} (p : PK) (hg : Good R Q N i L) (hk : Kn R Q st N i S) (hst : st ≤ from') (hsN : st ≤ N)
    (hsub : List.Sublist acc (flatB L)) (hfr : ∀ b ∈ acc, from' < b.b.base + b.b.span) :
    (saw S p st N from' (bsOf acc)).1 = 0 ∧ Kn R Q st N i (saw S p st N from' (bsOf acc)).2 := by
  have hs2 := bsOf_sub hsub
  have hmem : ∀ b ∈ bsOf acc, b ∈ bsOf (flatB L) := fun b hb => hs2.subset hb
  have hfr2 : ∀ b ∈ bsOf acc, from' < b.base + b.span := fun b hb => by
    simp only [bsOf, List.mem_map] at hb
    obtain ⟨x, hx, rfl⟩ := hb
    exact hfr x hx
  have hrise : (bsOf acc).Pairwise (fun a b => a.base + a.span ≤ b.base) := hg.rise.sublist hs2
  have h1 : fallsB S p st N = false := by
    unfold fallsB
    have e2 : decide (N < st) = false := decide_eq_false (by omega)
    rw [e2]
    cases hb : S.bn p with
    | none => rfl
    | some q =>
      obtain ⟨q1, q2⟩ := hk.bn p q hb
      simp
      omega
  have h2 : placedB (bsOf acc) from' st N = true := by
    rw [placed_all]
    intro j hj
    have hjm : (bsOf acc).getD j baz ∈ bsOf acc := by
      simp only [List.getD, List.getElem?_eq_getElem hj, Option.getD_some]
      exact List.getElem_mem hj
    obtain ⟨b0, bs2, bN, _⟩ := hg.each _ (hmem _ hjm)
    have hf := hfr2 _ hjm
    unfold okAt
    have a1 : decide (((bsOf acc).getD j baz).base + ((bsOf acc).getD j baz).span ≤ from') = false := decide_eq_false (by omega)
    have a2 : decide (((bsOf acc).getD j baz).base + ((bsOf acc).getD j baz).span ≤ N) = true := decide_eq_true bN
    have a3 : decide (st < ((bsOf acc).getD j baz).base + ((bsOf acc).getD j baz).span) = true := decide_eq_true (by omega)
    rw [a1, a2, a3]
    by_cases h0 : j = 0
    · have a4 : decide (j = 0) = true := decide_eq_true h0
      rw [a4]
      simp
    · have hp := List.pairwise_iff_getElem.1 hrise (j - 1) j (by omega) hj (by omega)
      have hj1m : (bsOf acc).getD (j - 1) baz ∈ bsOf acc := by
        simp only [List.getD, List.getElem?_eq_getElem (show j - 1 < (bsOf acc).length by omega), Option.getD_some]
        exact List.getElem_mem (by omega)
      obtain ⟨_, c2, _⟩ := hg.each _ (hmem _ hj1m)
      have e1 : (bsOf acc).getD (j - 1) baz = (bsOf acc)[j - 1] := by simp only [List.getD, List.getElem?_eq_getElem (show j - 1 < (bsOf acc).length by omega), Option.getD_some]
      have e2 : (bsOf acc).getD j baz = (bsOf acc)[j] := by simp only [List.getD, List.getElem?_eq_getElem hj, Option.getD_some]
      rw [e1] at c2 ⊢
      rw [e2] at hf ⊢
      have a5 : decide ((bsOf acc)[j - 1].base < (bsOf acc)[j].base) = true := decide_eq_true (by omega)
      have a6 : decide ((bsOf acc)[j - 1].base + (bsOf acc)[j - 1].span ≤ (bsOf acc)[j].base) = true := decide_eq_true hp
      rw [a5, a6]
      simp
  obtain ⟨fr, r1, r2⟩ := agrs_fun sameR (fun k : SK => R k.2.2) (fun k => k.2.2 < N) sameR_self S.rc hk.rc (recKs p (bsOf acc)) (fun _ => none) (fun x hx => by
    simp only [recKs, List.mem_flatten, List.mem_map] at hx
    obtain ⟨l, ⟨b, hb, rfl⟩, hx⟩ := hx
    simp only [recK, List.mem_map] at hx
    obtain ⟨r, hr, rfl⟩ := hx
    obtain ⟨b0, b1, b2, _, _, _, b6⟩ := hg.each b (hmem b hb)
    obtain ⟨c0, c1, c2, _⟩ := b6 r hr
    exact ⟨c2.symm, by simp only; omega⟩) (fun k u h => by cases h)
  obtain ⟨fb, s1, s2⟩ := agrs_fun sameI (fun k : TK => Q k.2.2.2) (fun k => k.2.2.2 < i) (fun v => by simp [sameI]) S.bs hk.bs (batKs p (bsOf acc)) (fun _ => none) (fun x hx => by
    simp only [batKs, List.mem_flatten, List.mem_map] at hx
    obtain ⟨l, ⟨b, hb, rfl⟩, hx⟩ := hx
    obtain ⟨_, _, _, _, b4, b5, _⟩ := hg.each b (hmem b hb)
    unfold batK at hx
    split at hx
    · simp at hx
      subst hx
      exact ⟨b4.symm, b5⟩
    · simp at hx) (fun k u h => by cases h)
  unfold saw
  rw [h1, h2, r1, s1]
  simp only [Bool.false_eq_true, if_false]
  refine ⟨by simp, ?_⟩
  simp only [Bool.true_eq_false, if_false]
  refine ⟨fun k q hq => ?_, fun k v hv => ?_, fun k v hv => ?_⟩
  · simp only at hq
    by_cases e : k = p
    · rw [if_pos e] at hq
      simp at hq
      rw [← hq]
      exact ⟨Int.le_refl _, Int.le_refl _⟩
    · rw [if_neg e] at hq
      exact hk.bn k q hq
  · simp only at hv
    cases hf : fr k with
    | some u => rw [hf] at hv; simp at hv; rw [← hv]; exact r2 k u hf
    | none => rw [hf] at hv; simp at hv; exact hk.rc k v hv
  · simp only at hv
    cases hf : fb k with
    | some u => rw [hf] at hv; simp at hv; rw [← hv]; exact s2 k u hf
    | none => rw [hf] at hv; simp at hv; exact hk.bs k v hv
end Go.Proofs.Ytnnljdnaipjoiaa
