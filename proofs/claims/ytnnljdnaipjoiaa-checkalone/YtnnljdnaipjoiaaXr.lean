/- What a Log knows of topics, and another one of the same with a sign more. -/
import Derived.Test.YtnnljdnaipjoiaaPm
namespace Go.Proofs.Ytnnljdnaipjoiaa
set_option linter.unusedSimpArgs false
set_option linter.unusedVariables false
def tx (t : ByteArray) : ByteArray := t ++ ⟨#[120]⟩
theorem tx_inj {a b : ByteArray} (h : tx a = tx b) : a = b := by
  unfold tx at h
  have h2 := congrArg ByteArray.data h
  simp only [ByteArray.data_append] at h2
  have h3 := congrArg Array.toList h2
  simp only [Array.toList_append] at h3
  exact ByteArray.ext (Array.toList_inj.1 (List.append_cancel_right h3))
def other : ByteArray := ⟨#[111, 116, 104, 101, 114]⟩
theorem tx_other (a : ByteArray) : tx a ≠ other := by
  intro h
  unfold tx other at h
  have h2 := congrArg ByteArray.data h
  simp only [ByteArray.data_append] at h2
  have h3 := congrArg Array.toList h2
  simp only [Array.toList_append] at h3
  have h4 := congrArg List.getLast? h3
  simp at h4
/-- b knows of t with the sign what a knows of t. -/
structure RelX (a b : LS) : Prop where
  bn : ∀ t p, b.bn (tx t, p) = a.bn (t, p)
  rc : ∀ t p o, b.rc (tx t, p, o) = a.rc (t, p, o)
  bs : ∀ t p r s, b.bs (tx t, p, r, s) = a.bs (t, p, r, s)
theorem RelX.zero : RelX ls0 ls0 := ⟨fun _ _ => rfl, fun _ _ _ => rfl, fun _ _ _ _ => rfl⟩
theorem agrs_lift {κ ν : Type} [DecidableEq κ] (g : κ → κ) (hg : ∀ {a b}, g a = g b → a = b) (e : ν → ν → Bool) {K K' : κ → Option ν} (hK : ∀ k, K' (g k) = K k) : ∀ (l : List (κ × ν)) (F F' : κ → Option ν), (∀ k, F' (g k) = F k) →
    (agrs e K l F = none ∧ agrs e K' (l.map fun x => (g x.1, x.2)) F' = none) ∨ ∃ G G', agrs e K l F = some G ∧ agrs e K' (l.map fun x => (g x.1, x.2)) F' = some G' ∧ ∀ k, G' (g k) = G k
  | [], F, F', hF => .inr ⟨F, F', rfl, rfl, hF⟩
  | (k, v) :: r, F, F', hF => by
    have h1 : agr e K' F' (g k) v = none ∧ agr e K F k v = none ∨ ∃ G G', agr e K F k v = some G ∧ agr e K' F' (g k) v = some G' ∧ ∀ k, G' (g k) = G k := by
      unfold agr
      rw [hK, hF]
      cases (K k).or (F k) with
      | some u =>
        simp only
        by_cases hu : e u v = true
        · rw [if_pos hu, if_pos hu]; exact .inr ⟨F, F', rfl, rfl, hF⟩
        · rw [if_neg hu, if_neg hu]; exact .inl ⟨rfl, rfl⟩
      | none =>
        refine .inr ⟨_, _, rfl, rfl, fun x => ?_⟩
        by_cases hx : x = k
        · rw [hx, if_pos rfl, if_pos rfl]
        · rw [if_neg hx, if_neg (fun c => hx (hg c)), hF]
    show ((agr e K F k v).bind (agrs e K r) = none ∧ (agr e K' F' (g k) v).bind (agrs e K' (r.map fun x => (g x.1, x.2))) = none) ∨ _
    rcases h1 with ⟨q1, q2⟩ | ⟨G, G', q1, q2, q3⟩
    · rw [q1, q2]; exact .inl ⟨rfl, rfl⟩
    · rw [q1, q2]
      rcases agrs_lift g hg e hK r G G' q3 with ⟨a, b⟩ | ⟨G2, G2', a, b, c⟩
      · exact .inl ⟨a, b⟩
      · refine .inr ⟨G2, G2', ?_, ?_, c⟩
        · show (agr e K F k v).bind (agrs e K r) = _; rw [q1]; exact a
        · show (agr e K' F' (g k) v).bind (agrs e K' (r.map fun x => (g x.1, x.2))) = _; rw [q2]; exact b
def gS (k : SK) : SK := (tx k.1, k.2.1, k.2.2)
def gT (k : TK) : TK := (tx k.1, k.2.1, k.2.2.1, k.2.2.2)
theorem gS_inj {a b : SK} (h : gS a = gS b) : a = b := by
  obtain ⟨a1, a2, a3⟩ := a
  obtain ⟨b1, b2, b3⟩ := b
  simp only [gS, Prod.mk.injEq] at h
  simp [tx_inj h.1, h.2.1, h.2.2]
theorem gT_inj {a b : TK} (h : gT a = gT b) : a = b := by
  obtain ⟨a1, a2, a3, a4⟩ := a
  obtain ⟨b1, b2, b3, b4⟩ := b
  simp only [gT, Prod.mk.injEq] at h
  simp [tx_inj h.1, h.2.1, h.2.2.1, h.2.2.2]
theorem recKs_lift (t : ByteArray) (p : Int) (bs : List Ba) : recKs (tx t, p) bs = (recKs (t, p) bs).map fun x => (gS x.1, x.2) := by
  unfold recKs
  rw [List.map_flatten, List.map_map]
  congr 1
  apply List.map_congr_left
  intro b _
  simp [recK, gS, Function.comp_def]
theorem batKs_lift (t : ByteArray) (p : Int) (bs : List Ba) : batKs (tx t, p) bs = (batKs (t, p) bs).map fun x => (gT x.1, x.2) := by
  unfold batKs
  rw [List.map_flatten, List.map_map]
  congr 1
  apply List.map_congr_left
  intro b _
  by_cases h : 0 < b.prod <;> simp [batK, gT, h, Function.comp_def]
theorem RelX.saw {a b : LS} (h : RelX a b) (t : ByteArray) (p st nx fr : Int) (bs : List Ba) :
    (saw a (t, p) st nx fr bs).1 = (saw b (tx t, p) st nx fr bs).1 ∧ RelX (saw a (t, p) st nx fr bs).2 (saw b (tx t, p) st nx fr bs).2 := by
  have hf : fallsB b (tx t, p) st nx = fallsB a (t, p) st nx := by unfold fallsB; rw [h.bn]
  have hr := agrs_lift gS gS_inj sameR (K := a.rc) (K' := b.rc) (fun k => h.rc _ _ _) (recKs (t, p) bs) (fun _ => none) (fun _ => none) (fun _ => rfl)
  have hb := agrs_lift gT gT_inj sameI (K := a.bs) (K' := b.bs) (fun k => h.bs _ _ _ _) (batKs (t, p) bs) (fun _ => none) (fun _ => none) (fun _ => rfl)
  rw [← recKs_lift] at hr
  rw [← batKs_lift] at hb
  unfold Ytnnljdnaipjoiaa.saw
  rw [hf]
  by_cases h1 : fallsB a (t, p) st nx = true
  · rw [if_pos h1, if_pos h1]; exact ⟨rfl, h⟩
  · rw [if_neg h1, if_neg h1]
    by_cases h2 : placedB bs fr st nx = false
    · rw [if_pos h2, if_pos h2]; exact ⟨rfl, h⟩
    · rw [if_neg h2, if_neg h2]
      rcases hr with ⟨r1, r2⟩ | ⟨F, F', r1, r2, r3⟩
      · rw [r1, r2]; exact ⟨rfl, h⟩
      · rw [r1, r2]
        rcases hb with ⟨b1, b2⟩ | ⟨G, G', b1, b2, b3⟩
        · simp only; rw [b1, b2]; exact ⟨rfl, h⟩
        · simp only
          rw [b1, b2]
          refine ⟨rfl, ⟨fun t' p' => ?_, fun t' p' o => ?_, fun t' p' r s => ?_⟩⟩
          · simp only [Prod.mk.injEq]
            by_cases e : t' = t ∧ p' = p
            · rw [if_pos e, if_pos ⟨by rw [e.1], e.2⟩]
            · rw [if_neg e, if_neg (fun c => e ⟨tx_inj c.1, c.2⟩), h.bn]
          · have := r3 (t', p', o)
            simp only [gS] at this
            simp only
            rw [this, h.rc]
          · have := b3 (t', p', r, s)
            simp only [gT] at this
            simp only
            rw [this, h.bs]
/-- What is told of another topic, with no batches. -/
theorem RelX.aside {a b : LS} (h : RelX a b) (p st nx fr : Int) : RelX a (Ytnnljdnaipjoiaa.saw b (other, p) st nx fr []).2 := by
  unfold Ytnnljdnaipjoiaa.saw
  by_cases h1 : fallsB b (other, p) st nx = true
  · rw [if_pos h1]; exact h
  · rw [if_neg h1]
    by_cases h2 : placedB [] fr st nx = false
    · rw [if_pos h2]; exact h
    · rw [if_neg h2]
      show RelX a _
      simp only [recKs, batKs, List.map_nil, List.flatten_nil, agrs]
      refine ⟨fun t p' => ?_, fun t p' o => ?_, fun t p' r s => ?_⟩
      · simp only [Prod.mk.injEq]
        rw [if_neg (fun c => tx_other t c.1), h.bn]
      · exact h.rc t p' o
      · exact h.bs t p' r s
end Go.Proofs.Ytnnljdnaipjoiaa
