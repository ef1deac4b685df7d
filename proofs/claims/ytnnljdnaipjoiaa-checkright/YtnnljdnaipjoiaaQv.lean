/- What is said of a partition's batches holds behind Retain, Compact, Append. -/
import Derived.Test.YtnnljdnaipjoiaaQu
namespace Go.Proofs.Ytnnljdnaipjoiaa
set_option linter.unusedSimpArgs false
set_option linter.unusedVariables false
theorem flat_split (L : List Sg) (s : Nat) (hs : s < L.length) : flatB L = flatB (L.take s) ++ ((L.getD s sgz).ss ++ flatB (L.drop (s + 1))) := by
  unfold flatB
  have h1 := congrArg (fun l => (l.map Sg.ss).flatten) (List.take_append_drop s L)
  simp only [List.map_append, List.flatten_append] at h1
  rw [← h1, List.drop_eq_getElem_cons hs, List.map_cons, List.flatten_cons, getD_lt hs]
theorem flat_set (L : List Sg) (k : Nat) (x : Sg) (hk : k < L.length) : flatB (L.set k x) = flatB (L.take k) ++ (x.ss ++ flatB (L.drop (k + 1))) := by
  rw [flat_split (L.set k x) k (by rw [List.length_set]; exact hk), set_get L k k x hk, if_pos rfl]
  rw [List.take_set_of_le (Nat.le_refl _), List.drop_set_of_lt (by omega)]
theorem flat_app (L : List Sg) (x : Sg) : flatB (L ++ [x]) = flatB L ++ x.ss := by simp [flatB]
theorem flat_tail (L : List Sg) : List.Sublist (flatB L.tail) (flatB L) := by
  cases L with
  | nil => exact List.Sublist.refl _
  | cons x t => simp [flatB]
/-- Fewer batches, the same ends. -/
theorem Good.thin {R : Int → Rc} {Q : Int → Int} {N i : Int} {L L' : List Sg} (h : Good R Q N i L) (ht : Thin (bsOf (flatB L')) (bsOf (flatB L))) (hn : nextS (lastS L') = N)
    (hb : ∀ j k, j ≤ k → k < L'.length → (L'.getD j sgz).base ≤ (L'.getD k sgz).base) (hp : ∀ j, j < L'.length → 0 ≤ (L'.getD j sgz).base ∧ (L'.getD j sgz).base ≤ N) : Good R Q N (i + 1) L' := by
  refine ⟨ht.pair (fun a b c d k1 k2 hr => ?_) h.rise, fun b hb2 => ?_, hn, hb, hp, h.N0, by have := h.N1; omega⟩
  · rw [k1.1, k1.2.1, k2.1]
    exact hr
  · obtain ⟨c, hc, k1, k2, k3, k4, k5⟩ := ht.mem b hb2
    obtain ⟨q0, q1, q2, q3, q4, q5, q6⟩ := h.each c hc
    exact ⟨by omega, by omega, by omega, by omega, by rw [k4, k1]; exact q4, by rw [k4]; omega, fun r hr => by
      obtain ⟨c0, c1, c2, c3, c4⟩ := q6 r (k5.subset hr)
      exact ⟨c0, c1, by rw [k1]; exact c2, c3, c4⟩⟩
theorem Good.same {R : Int → Rc} {Q : Int → Int} {N i : Int} {L : List Sg} (h : Good R Q N i L) : Good R Q N (i + 1) L := h.thin (Thin.refl _) h.nx h.bases h.top
theorem Good.tail {R : Int → Rc} {Q : Int → Int} {N i : Int} {L : List Sg} (h : Good R Q N i L) (h2 : 2 ≤ L.length) : Good R Q N (i + 1) L.tail := by
  have hl : L.tail.length = L.length - 1 := List.length_tail
  refine h.thin (Thin.of_sub (bsOf_sub (flat_tail L))) (by rw [last_tail L h2]; exact h.nx) (fun j k hjk hk => ?_) (fun j hj => ?_)
  · rw [tail_get, tail_get]
    exact h.bases (j + 1) (k + 1) (by omega) (by omega)
  · rw [tail_get]
    exact h.top (j + 1) (by omega)
theorem Good.put {R : Int → Rc} {Q : Int → Int} {N i : Int} {L : List Sg} (h : Good R Q N i L) (k : Nat) (x : Sg) (hk : k + 1 < L.length) (hb : x.base = (L.getD k sgz).base) (ht : Thin (bsOf x.ss) (bsOf (L.getD k sgz).ss)) : Good R Q N (i + 1) (L.set k x) := by
  have hget : ∀ j, ((L.set k x).getD j sgz).base = (L.getD j sgz).base := fun j => by
    rw [set_get L k j x (by omega)]
    by_cases e : j = k
    · rw [if_pos e, hb, e]
    · rw [if_neg e]
  refine h.thin ?_ (by rw [last_set L k x hk]; exact h.nx) (fun j k2 hjk hk2 => ?_) (fun j hj => ?_)
  · rw [flat_set L k x (by omega), flat_split L k (by omega)]
    simp only [bsOf_app]
    exact (Thin.refl _).app (ht.app (Thin.refl _))
  · rw [List.length_set] at hk2
    rw [hget, hget]
    exact h.bases j k2 hjk hk2
  · rw [List.length_set] at hj
    rw [hget]
    exact h.top j hj
theorem nextS_snoc (g : Nat) (base : Int) (a : Option Addr) (c : Nat) (l : List Bs) (b : Bs) : nextS ⟨g, base, a, c, l ++ [b]⟩ = b.b.base + b.b.span := by
  unfold nextS
  simp [List.getD]
theorem bsOf_one (b : Bs) : bsOf [b] = [b.b] := rfl
theorem Good.more {R : Int → Rc} {Q : Int → Int} {N i : Int} {L L' : List Sg} (h : Good R Q N i L) (hpos : 0 < L.length) {rs : List Rc} (hl : rs.length = 2) (ho : ∀ k, k < rs.length → (rs.getD k rz).k.size ≤ 20000 ∧ (rs.getD k rz).v.size ≤ 20000) (hg : Grown L N ⟨N, 2, 1, i, numL rs⟩ L') :
    ∃ R' Q', (∀ o, o < N → R' o = R o) ∧ (∀ q, q < i → Q' q = Q q) ∧ Good R' Q' (N + 2) (i + 1) L' ∧ (L'.getD 0 sgz).base = (L.getD 0 sgz).base ∧ L'.length ≤ L.length + 1 ∧ (lastS L').ss.length ≤ (lastS L).ss.length + 1 := by
  obtain ⟨nb, hnb, hg⟩ := hg
  have hnl : (numL rs).length = 2 := by rw [numL_len]; exact hl
  refine ⟨fun o => if N ≤ o then ((numL rs).getD (o - N).toNat rz).own else R o, fun q => if q = i then N else Q q, fun o ho => if_neg (by omega), fun q hq => if_neg (by omega), ?_⟩
  have hflat : bsOf (flatB L') = bsOf (flatB L) ++ [⟨N, 2, 1, i, numL rs⟩] := by
    rcases hg with ⟨a, c, rfl⟩ | ⟨g, a, c, rfl⟩
    · rw [flat_set L _ _ (by omega)]
      have h1 := flat_split L (L.length - 1) (by omega)
      have h2 : L.drop (L.length - 1 + 1) = [] := List.drop_eq_nil_of_le (by omega)
      have h3 : L.getD (L.length - 1) sgz = lastS L := rfl
      rw [h2, h3] at h1
      rw [h2, h1]
      have h4 : flatB [] = [] := rfl
      rw [h4, List.append_nil, List.append_nil]
      simp only [bsOf_app, bsOf_one, hnb, List.append_assoc]
    · rw [flat_app, bsOf_app, bsOf_one, hnb]
  have hlast : nextS (lastS L') = N + 2 := by
    rcases hg with ⟨a, c, rfl⟩ | ⟨g, a, c, rfl⟩
    · have e : lastS (L.set (L.length - 1) ⟨(lastS L).g, (lastS L).base, a, c, (lastS L).ss ++ [nb]⟩) = ⟨(lastS L).g, (lastS L).base, a, c, (lastS L).ss ++ [nb]⟩ := by
        conv => lhs; unfold lastS
        rw [List.length_set, set_get L _ _ _ (by omega), if_pos rfl]
        rfl
      rw [e, nextS_snoc, hnb]
    · rw [last_snoc]
      have := nextS_snoc g N a c [] nb
      rw [List.nil_append] at this
      rw [this, hnb]
  have hnum : ∀ r ∈ numL rs, ∃ k, k < 2 ∧ (numL rs).getD k rz = r ∧ r.o = (k : Int) ∧ r.k.size ≤ 20000 ∧ r.v.size ≤ 20000 := by
    intro r hr
    obtain ⟨k, hk, rfl⟩ := List.getElem_of_mem hr
    have hk2 : k < rs.length := by rw [numL_len] at hk; exact hk
    obtain ⟨s1, s2⟩ := ho k hk2
    have e : (numL rs)[k] = num (rs.getD k rz) k := by simp [numL]
    refine ⟨k, by omega, by simp only [List.getD, List.getElem?_eq_getElem hk, Option.getD_some], ?_, ?_, ?_⟩
    · rw [e]; rfl
    · rw [e]; exact s1
    · rw [e]; exact s2
  have hlen : L'.length ≤ L.length + 1 ∧ (lastS L').ss.length ≤ (lastS L).ss.length + 1 := by
    rcases hg with ⟨a, c, rfl⟩ | ⟨g, a, c, rfl⟩
    · have e : lastS (L.set (L.length - 1) ⟨(lastS L).g, (lastS L).base, a, c, (lastS L).ss ++ [nb]⟩) = ⟨(lastS L).g, (lastS L).base, a, c, (lastS L).ss ++ [nb]⟩ := by
        conv => lhs; unfold lastS
        rw [List.length_set, set_get L _ _ _ (by omega), if_pos rfl]
        rfl
      rw [e, List.length_set]
      simp
    · rw [last_snoc]
      simp
  have hbase : ∀ j, j < L'.length → ((L'.getD j sgz).base = (L.getD j sgz).base ∧ j < L.length) ∨ ((L'.getD j sgz).base = N ∧ j = L.length) := by
    intro j hj
    rcases hg with ⟨a, c, rfl⟩ | ⟨g, a, c, rfl⟩
    · rw [List.length_set] at hj
      refine .inl ⟨?_, hj⟩
      rw [set_get L _ j _ (by omega)]
      by_cases e : j = L.length - 1
      · rw [if_pos e, e]; rfl
      · rw [if_neg e]
    · simp only [List.length_append, List.length_singleton] at hj
      rw [snoc_get L _ j hj]
      by_cases e : j < L.length
      · rw [if_pos e]; exact .inl ⟨rfl, e⟩
      · rw [if_neg e]; exact .inr ⟨rfl, by omega⟩
  have hN0 := h.N0
  refine ⟨⟨?_, ?_, hlast, fun j k hjk hk => ?_, fun j hj => ?_, by omega, by have := h.N1; omega⟩, ?_, hlen.1, hlen.2⟩
  · rw [hflat, List.pairwise_append]
    refine ⟨h.rise, List.pairwise_singleton _ _, fun a ha b hb => ?_⟩
    rw [List.mem_singleton] at hb
    rw [hb]
    exact (h.each a ha).2.2.1
  · rw [hflat]
    intro b hb
    rcases List.mem_append.1 hb with hb | hb
    · obtain ⟨q0, q1, q2, q3, q4, q5, q6⟩ := h.each b hb
      refine ⟨q0, q1, by omega, q3, ?_, by omega, fun r hr => ?_⟩
      · (try simp only)
        rw [if_neg (by omega)]
        exact q4
      · obtain ⟨c0, c1, c2, c3, c4⟩ := q6 r hr
        refine ⟨c0, c1, ?_, c3, c4⟩
        (try simp only)
        rw [if_neg (by omega)]
        exact c2
    · rw [List.mem_singleton] at hb
      subst hb
      refine ⟨hN0, rfl, by simp only; omega, rfl, by simp, by simp only; omega, fun r hr => ?_⟩
      obtain ⟨k, hk, e1, e2, e3, e4⟩ := hnum r hr
      refine ⟨by omega, by omega, ?_, e3, e4⟩
      (try simp only)
      rw [if_pos (by omega), e2, show (N + (k : Int) - N).toNat = k by omega, e1]
  · rcases hbase j (by omega) with ⟨a1, a2⟩ | ⟨a1, a2⟩
    · rcases hbase k hk with ⟨b1, b2⟩ | ⟨b1, b2⟩
      · rw [a1, b1]; exact h.bases j k hjk b2
      · rw [a1, b1]; exact (h.top j a2).2
    · rcases hbase k hk with ⟨b1, b2⟩ | ⟨b1, b2⟩
      · omega
      · rw [a1, b1]; exact Int.le_refl _
  · rcases hbase j hj with ⟨a1, a2⟩ | ⟨a1, a2⟩
    · rw [a1]
      have := h.top j a2
      omega
    · rw [a1]
      omega
  · rcases hbase 0 (by rcases hg with ⟨a, c, rfl⟩ | ⟨g, a, c, rfl⟩ <;> simp <;> omega) with ⟨a1, _⟩ | ⟨_, a2⟩
    · exact a1
    · omega
theorem Good.start (g : Nat) : Good (fun _ => rz) (fun _ => 0) 0 0 [⟨g, 0, none, 0, []⟩] := by
  refine ⟨by simp [flatB, bsOf], by simp [flatB, bsOf], by simp [nextS, lastS, List.getD], fun j k hjk hk => ?_, fun j hj => ?_, by omega, by omega⟩
  · simp at hk
    subst hk
    obtain rfl : j = 0 := by omega
    exact Int.le_refl _
  · simp at hj
    subst hj
    simp [List.getD]
theorem Good.tame {R : Int → Rc} {Q : Int → Int} {N i : Int} {L : List Sg} (h : Good R Q N i L) (hi : i ≤ 1000) : ∀ b ∈ flatB L, Tame b.b := by
  intro b hb
  obtain ⟨q0, q1, q2, _⟩ := h.each b.b (List.mem_map.2 ⟨b, hb, rfl⟩)
  have := h.N1
  exact ⟨q0, by omega, by omega, by omega⟩
theorem Good.ok {R : Int → Rc} {Q : Int → Int} {N i : Int} {L : List Sg} (h : Good R Q N i L) (hi : i ≤ 1000) : ∀ b ∈ flatB L, BOk b.b := by
  intro b hb
  obtain ⟨q0, q1, q2, q3, q4, q5, q6⟩ := h.each b.b (List.mem_map.2 ⟨b, hb, rfl⟩)
  have := h.N1
  exact ⟨q0, by omega, by omega, by omega, fun r hr => by
    obtain ⟨c0, c1, c2, c3, c4⟩ := q6 r hr
    exact ⟨c0, by omega, c3, c4⟩⟩
end Go.Proofs.Ytnnljdnaipjoiaa
