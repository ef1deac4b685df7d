/- The document's device: Read. -/
import Derived.Test.YtlieckifnkngnaaRef
import Derived.BigFrame
import Derived.Laws.AppendOwnNone
namespace Go.Proofs.Ytlieckifnkngnaa
set_option linter.unusedSimpArgs false
set_option linter.unusedVariables false
open Go.RowKit Go.MapKept
theorem wpList_append_row {w : World} {ops : Array Oper} {rest : List Oper} {o : Oper} {a : Act} {Q : Exit → Act → World → Prop} (hw : Region.wanted o (yielded ops a.tmps) = true) (s x : Operand)
    (ho : o.op = .call { callee := .builtin .append, args := #[s, x], argTypes := #[39, 39] }) (B : Nat) (w0 : World)
    (v : Value) (n : Nat) (xs : List Value) (hs : a.eval s = v) (hown : w.ownsRow B 5 1 v n xs) (hB : Below B w0 w) (hBs : B ≤ w.heap.size)
    (ad : Addr) (cap : Nat) (l : List Nat) (hx : a.eval x = .slice (some ad) 512 cap) (hll : l.length = 512) (hr : Row w (some ad) l) (h63 : n + l.length ≤ 100000)
    (h : ∀ v' w', w'.ownsRow B 5 1 v' (n + l.length) (xs ++ cv l) → Below B w0 w' → wpList Try.prog ops Q rest (a.put o.dst v') w') : wpList Try.prog ops Q (o :: rest) a w := by
  obtain ⟨i0, hi, hz0, hz1, hz2⟩ := info_parts Try.info5
  refine BigFrame.wpList_want hw fun K hK => ?_
  refine wp_append_own w s x 39 ho B 5 i0 (.int .u8 0) 1 1 Try.underlying39 hi hz0 hz1 hz2 rfl (by decide) v n xs hs hown ad 512 cap (cv l) hx (by rw [cv_length, hll]) (row_news hr) (cv_one _) (by unfold maxLen; omega) (by omega) hBs ?_
  intro v' w' h2 h3 _
  rw [← hll] at h2
  exact hK _ _ (h v' w' h2 (hB.grown h3 hBs (fun k hk => (hown.lt k hk).1)))
theorem owns_nil (w : World) (B e : Nat) : w.ownsRow B e 1 (.slice none 0 0) 0 [] := ⟨rfl, .inl ⟨rfl, rfl⟩⟩
/-- What a slice of one's own looks like, whatever is in it. -/
theorem owns_shape {B e : Nat} {w : World} {v : Value} {n : Nat} {xs : List Value} (h : w.ownsRow B e 1 v n xs) : (v = .slice none 0 0 ∧ n = 0) ∨ ∃ g cap, v = .slice (some ⟨g, 0, none⟩) n cap ∧ n ≤ cap := by
  rcases h.2 with q | ⟨g, cap, cur, rfl, hb, hg, hle, _⟩
  · exact .inl q
  · exact .inr ⟨g, cap, rfl, hle⟩
section
variable {B : Nat} {w : World} {q gB cB gP cP : Nat} {bs ps : List Value} {rs : Nat → List Value} {G : List Nat} {d : Dv} {last : Int}
theorem RefAt.bcell (h : RefAt B w q gB cB gP cP bs ps rs G d last) (k : Nat) (hk : k < d.n) : w.cell? ⟨gB, k, none⟩ = some (bs.getD k undef) := owns_cell' h.bo k hk
theorem RefAt.pcell (h : RefAt B w q gB cB gP cP bs ps rs G d last) (k : Nat) (hk : k < d.n) : w.cell? ⟨gP, k, none⟩ = some (ps.getD k undef) := owns_cell' h.po k hk
set_option maxRecDepth 100000 in
set_option maxHeartbeats 2000000 in
theorem refRead_ok (h : RefAt B w q gB cB gP cP bs ps rs G d last) (k : Nat) (hk : k < d.n) :
    Calls Try.prog 34 #[.pointer (some ⟨q, 0, none⟩), .int .i64 (k : Int)] w fun e w' => ∃ a cap, e = .returned (.tuple #[.slice a 512 cap, .int .i64 0]) ∧ Row w' a (d.cur k) ∧ Below w.heap.size w w' := by
  obtain ⟨c0, c1, c2, c3⟩ := h.c
  have hn2 := h.ok.n2
  have hkI : (k : Int) < (d.n : Int) := by omega
  have hkJ : ¬ (d.n : Int) ≤ (k : Int) := by omega
  have hb := h.bcell k hk
  have hp := h.pcell k hk
  obtain ⟨b, cap, cs, fr, hv, _, _, hrow, hl⟩ := h.by' k hk
  rw [hv] at hb
  have hcnt : (d.pend k).length ≤ 1000000 := by have := h.ok.count k; have := h.ok.ops; omega
  have fin : ∀ (w' : World) (v' : Value) (c : List Nat), c.length = 512 → (∀ i, c.getD i 0 < 256) → w'.ownsRow w.heap.size 5 1 v' (0 + c.length) ([] ++ cv c) → Below w.heap.size w w' → ∃ a cap, v' = .slice a 512 cap ∧ Row w' a c := fun w' v' c hc hbd ho _ => by
    rw [Nat.zero_add, List.nil_append] at ho
    obtain ⟨a, cap, e, hr, _⟩ := owns_row ho hbd
    exact ⟨a, cap, by rw [e, hc], hr⟩
  have HF : Hid _ := fin
  clear fin
  have hOK := h.ok.cur k
  rcases owns_shape (h.ro k hk) with ⟨hpv, hp0⟩ | ⟨g, pc, hpv, hle⟩
  · rw [hpv] at hp
    have hcur : d.cur k = d.base k := by simp [Dv.cur, Dv.at, hp0]
    rw [hcur] at hOK ⊢
    have HOK : Hid ((d.base k).length = 512 ∧ ∀ i, (d.base k).getD i 0 < 256) := hOK
    clear h hcur hOK
    go_enter Try.func34, Try.ntmps34
    go_wp2_with (at_builtin; refine wpList_append_row (by rfl) _ _ (by rfl) w.heap.size w _ 0 [] (by rfl) (owns_nil _ _ _) (Below.refl _ _) (Nat.le_refl _) _ _ (d.base k) (by rfl) HOK.out.1 hrow (by rw [HOK.out.1]; decide) ?_; intro v' w' hown hbel; obtain ⟨a, cp, rfl, hr⟩ := HF.out _ _ _ HOK.out.1 HOK.out.2 hown hbel)
    go_ret2
    exact ⟨a, ⟨cp, rfl⟩, hr, hbel⟩
  · by_cases hz : (d.pend k).length = 0
    · rw [hpv, hz] at hp
      have hcur : d.cur k = d.base k := by simp [Dv.cur, Dv.at, hz]
      rw [hcur] at hOK ⊢
      have HOK : Hid ((d.base k).length = 512 ∧ ∀ i, (d.base k).getD i 0 < 256) := hOK
      clear h hcur hOK hz
      go_enter Try.func34, Try.ntmps34
      go_wp2_with (at_builtin; refine wpList_append_row (by rfl) _ _ (by rfl) w.heap.size w _ 0 [] (by rfl) (owns_nil _ _ _) (Below.refl _ _) (Nat.le_refl _) _ _ (d.base k) (by rfl) HOK.out.1 hrow (by rw [HOK.out.1]; decide) ?_; intro v' w' hown hbel; obtain ⟨a, cp, rfl, hr⟩ := HF.out _ _ _ HOK.out.1 HOK.out.2 hown hbel)
      go_ret2
      exact ⟨a, ⟨cp, rfl⟩, hr, hbel⟩
    · obtain ⟨m, hm⟩ : ∃ m, (d.pend k).length = m + 1 := ⟨(d.pend k).length - 1, by omega⟩
      have hro := h.ro k hk
      rw [hpv] at hp hro
      rw [hm] at hp hro hle
      have hrc := owns_cell' hro m (by omega)
      obtain ⟨b2, cap2, cs2, fr2, hv2, _, _, hrow2, hl2⟩ := h.pby k m hk (by omega)
      rw [hv2] at hrc
      have hcur : d.cur k = (d.pend k).getD m [] := by simp [Dv.cur, Dv.at, hm]
      rw [hcur] at hOK ⊢
      have HOK : Hid (((d.pend k).getD m []).length = 512 ∧ ∀ i, ((d.pend k).getD m []).getD i 0 < 256) := hOK
      obtain ⟨C, HC⟩ : ∃ C, Hid ((d.pend k).getD m [] = C) := ⟨_, rfl⟩
      rw [HC.out] at HOK hrow2 ⊢
      have hmI : (m : Int) ≤ 1000000 := by omega
      clear h hcur hOK hz hm hl2 hl hrow hro hcnt
      go_enter Try.func34, Try.ntmps34
      go_wp2_with (at_builtin; refine wpList_append_row (by rfl) _ _ (by rfl) w.heap.size w _ 0 [] (by rfl) (owns_nil _ _ _) (Below.refl _ _) (Nat.le_refl _) _ _ C (by rfl) HOK.out.1 hrow2 (by rw [HOK.out.1]; decide) ?_; intro v' w' hown hbel; obtain ⟨a, cp, rfl, hr⟩ := HF.out _ _ _ HOK.out.1 HOK.out.2 hown hbel)
      go_ret2
      exact ⟨a, ⟨cp, rfl⟩, hr, hbel⟩
theorem refRead_bad (h : RefAt B w q gB cB gP cP bs ps rs G d last) (k : Int) (hk : hasB d.n k = false) :
    Calls Try.prog 34 #[.pointer (some ⟨q, 0, none⟩), .int .i64 k] w fun e w' => e = .returned (.tuple #[.slice none 0 0, .int .i64 1]) ∧ w' = w := by
  obtain ⟨c0, c1, c2, c3⟩ := h.c
  have hk2 : k < 0 ∨ (d.n : Int) ≤ k := by simp [hasB] at hk; omega
  clear h hk
  by_cases hk0 : k < 0
  · go_enter Try.func34, Try.ntmps34
    go_wp2
    go_ret2
    exact ⟨rfl, rfl⟩
  · have hk3 : (d.n : Int) ≤ k := by omega
    go_enter Try.func34, Try.ntmps34
    go_wp2
    go_ret2
    exact ⟨rfl, rfl⟩
end
end Go.Proofs.Ytlieckifnkngnaa
