/- What a device holds of a journal, without a walk: at rest, while it is written, whatever a crash leaves. -/
import Derived.Test.YtohncckmennfbaaDoorTm
import Derived.Test.YtohncckmennfbaaDoorUse
import Derived.Test.YtohncckmennfbaaDoorCr
namespace Go.Proofs.YtohncckmennfbaaDoor
set_option linter.unusedSimpArgs false
set_option linter.unusedVariables false
/-- Blocks that are opened as a journal which tells s. -/
def Opens (n : Nat) (F : Nat → List Nat) (s : Nat → List Nat) : Prop :=
  ∃ T, GoodT n T ∧ F 0 = tabL T ∧ ∀ k, 245 ≤ k → k < n → F (find T k) = s k
/-- What a crash may leave. -/
def Left (d : Dv) (F : Nat → List Nat) : Prop := ∀ k, F k = d.base k ∨ F k ∈ d.pend k
/-- Whatever is left is opened as s or as t. -/
def Safe (d : Dv) (s t : Nat → List Nat) : Prop := ∀ F, Left d F → Opens d.n F s ∨ Opens d.n F t
/-- The table stands, and all that it speaks of, with nothing pending there. -/
structure Ph (d : Dv) (T : List (List Nat)) (s : Nat → List Nat) : Prop where
  n246 : 246 ≤ d.n
  good : GoodT d.n T
  tab : d.base 0 = tabL T
  tab0 : d.pend 0 = []
  view : ∀ k, 245 ≤ k → k < d.n → d.base (find T k) = s k ∧ d.pend (find T k) = []
structure Rest (d : Dv) (T : List (List Nat)) (s : Nat → List Nat) : Prop where
  ph : Ph d T s
  none : ∀ k, d.pend k = []
theorem Ph.safe {d : Dv} {T : List (List Nat)} {s : Nat → List Nat} (h : Ph d T s) (t : Nat → List Nat) : Safe d s t := by
  intro F hF
  refine .inl ⟨T, h.good, ?_, fun k h1 h2 => ?_⟩
  · rcases hF 0 with e | e
    · rw [e, h.tab]
    · rw [h.tab0] at e; cases e
  · obtain ⟨a, b⟩ := h.view k h1 h2
    rcases hF (find T k) with e | e
    · rw [e, a]
    · rw [b] at e; cases e
theorem Safe.swap {d : Dv} {s t : Nat → List Nat} (h : Safe d s t) : Safe d t s := fun F hF => (h F hF).symm
theorem find_lt {n : Nat} {T : List (List Nat)} (h : GoodT n T) (hn : 246 ≤ n) {k : Nat} (h1 : 245 ≤ k) (h2 : k < n) : find T k < n ∧ find T k ≠ 0 := by
  rcases find_cases h k with ⟨e, _⟩ | ⟨s, hs, hk, e⟩
  · rw [e]; omega
  · have := dat_lt h hk; rw [e]; omega
theorem cur_none {d : Dv} {k : Nat} (h : d.pend k = []) : d.cur k = d.base k := by simp [Dv.cur, h, Dv.at]
/-- A device as another one, but for its counting. -/
structure Like (d d' : Dv) : Prop where
  n : d'.n = d.n
  base : d'.base = d.base
  pend : d'.pend = d.pend
theorem Like.tick (d : Dv) : Like d d.tick := ⟨rfl, rfl, rfl⟩
theorem Like.cutAt (d : Dv) (k : Int) : Like d (d.cutAt k) := ⟨rfl, rfl, rfl⟩
theorem Like.ph {d d' : Dv} (e : Like d d') {T : List (List Nat)} {s : Nat → List Nat} (h : Ph d T s) : Ph d' T s :=
  ⟨by rw [e.n]; exact h.n246, by rw [e.n]; exact h.good, by rw [e.base]; exact h.tab, by rw [e.pend]; exact h.tab0, by rw [e.n, e.base, e.pend]; exact h.view⟩
theorem Like.rest {d d' : Dv} (e : Like d d') {T : List (List Nat)} {s : Nat → List Nat} (h : Rest d T s) : Rest d' T s := ⟨e.ph h.ph, by rw [e.pend]; exact h.none⟩
theorem Like.safe {d d' : Dv} (e : Like d d') {s t : Nat → List Nat} (h : Safe d s t) : Safe d' s t := by
  intro F hF
  rw [e.n]
  exact h F (by intro k; have := hF k; rw [e.base, e.pend] at this; exact this)
/-- Write, the power being on. -/
theorem wrote_on {d : Dv} {k : Nat} {c : List Nat} (hon : d.on = true) (hk : k < d.n) (hc : c.length = 512) : d.wrote (k : Int) c = d.tick.add k c := by
  have h1 : hasB d.n (k : Int) = true := by simp [hasB]; omega
  simp [Dv.wrote, hon, h1, hc]
theorem wrote_off {d : Dv} {k : Int} {c : List Nat} (hon : d.on = false) : d.wrote k c = d.tick := by simp [Dv.wrote, hon]
theorem flushed_on {d : Dv} (hon : d.on = true) : d.flushed = d.tick.flush := by simp [Dv.flushed, hon]
theorem flushed_off {d : Dv} (hon : d.on = false) : d.flushed = d.tick := by simp [Dv.flushed, hon]
theorem wcode_on {d : Dv} {k : Nat} (hon : d.on = true) (hk : k < d.n) : d.wcode (k : Int) 512 = 0 := by
  have h1 : hasB d.n (k : Int) = true := by simp [hasB]; omega
  simp [Dv.wcode, hon, h1]
theorem wcode_off {d : Dv} {k : Int} {n : Nat} (hon : d.on = false) : d.wcode k n = 9 := by simp [Dv.wcode, hon]
theorem off_cut {d : Dv} (hon : d.on = false) : d.cut = true := by
  unfold Dv.on at hon
  cases h : d.cut
  · simp [h] at hon
  · rfl
/-- A write where nothing that the table speaks of lies. -/
theorem Ph.add {d : Dv} {T : List (List Nat)} {s : Nat → List Nat} (h : Ph d T s) {k : Nat} {c : List Nat} (h0 : k ≠ 0) (hk : ∀ x, 245 ≤ x → x < d.n → find T x ≠ k) : Ph (d.add k c) T s := by
  refine ⟨h.n246, h.good, h.tab, ?_, fun x h1 h2 => ?_⟩
  · simp only [Dv.add]; rw [if_neg (Ne.symm h0)]; exact h.tab0
  · obtain ⟨a, b⟩ := h.view x h1 h2
    refine ⟨a, ?_⟩
    simp only [Dv.add]; rw [if_neg (hk x h1 h2)]; exact b
theorem cur_add (d : Dv) (k : Nat) (c : List Nat) (x : Nat) : (d.add k c).cur x = if x = k then c else d.cur x := by
  by_cases e : x = k
  · subst e
    simp [Dv.cur, Dv.add, Dv.at, List.getD]
  · simp [Dv.cur, Dv.add, Dv.at, e]
theorem Ph.flush {d : Dv} {T : List (List Nat)} {s : Nat → List Nat} (h : Ph d T s) : Rest d.flush T s := by
  refine ⟨⟨h.n246, h.good, ?_, rfl, fun k h1 h2 => ⟨?_, rfl⟩⟩, fun _ => rfl⟩
  · show d.cur 0 = _
    rw [cur_none h.tab0]; exact h.tab
  · obtain ⟨a, b⟩ := h.view k h1 h2
    show d.cur _ = _
    rw [cur_none b]; exact a
/-- All is there for another table. -/
structure Ready (d : Dv) (T : List (List Nat)) (t : Nat → List Nat) : Prop where
  good : GoodT d.n T
  view : ∀ k, 245 ≤ k → k < d.n → d.base (find T k) = t k
theorem Like.ready {d d' : Dv} (e : Like d d') {T : List (List Nat)} {t : Nat → List Nat} (h : Ready d T t) : Ready d' T t := ⟨by rw [e.n]; exact h.good, by rw [e.n, e.base]; exact h.view⟩
/-- Another table is written, not flushed yet. -/
theorem turn_safe {d : Dv} {T T' : List (List Nat)} {s t : Nat → List Nat} (h : Rest d T s) (k : Ready d T' t) : Safe (d.add 0 (tabL T')) s t := by
  intro F hF
  have hne : ∀ x, x ≠ 0 → F x = d.base x := fun x hx => by
    rcases hF x with e | e
    · exact e
    · simp only [Dv.add] at e; rw [if_neg hx, h.none x] at e; cases e
  rcases hF 0 with e | e
  · refine .inl ⟨T, h.ph.good, e.trans h.ph.tab, fun x h1 h2 => ?_⟩
    rw [hne _ (find_lt h.ph.good h.ph.n246 h1 h2).2]; exact (h.ph.view x h1 h2).1
  · simp only [Dv.add, if_true, h.none 0, List.nil_append, List.mem_singleton] at e
    refine .inr ⟨T', k.good, e, fun x h1 h2 => ?_⟩
    rw [hne _ (find_lt k.good h.ph.n246 h1 h2).2]; exact k.view x h1 h2
theorem turn_rest {d : Dv} {T T' : List (List Nat)} {s t : Nat → List Nat} (h : Rest d T s) (k : Ready d T' t) : Rest (d.add 0 (tabL T')).flush T' t := by
  refine ⟨⟨h.ph.n246, k.good, ?_, rfl, fun x h1 h2 => ⟨?_, rfl⟩⟩, fun _ => rfl⟩
  · show (d.add 0 (tabL T')).cur 0 = _
    rw [cur_add, if_pos rfl]
  · show (d.add 0 (tabL T')).cur _ = _
    rw [cur_add, if_neg (find_lt k.good h.ph.n246 h1 h2).2, cur_none (h.none _)]
    exact k.view x h1 h2
/-- What a crash leaves. -/
theorem crash_left (d : Dv) (l : List Int) : Left d (d.crash l).base := by
  intro k
  show d.crashBase l k = _ ∨ d.crashBase l k ∈ _
  unfold Dv.crashBase
  by_cases h : d.pend k = []
  · rw [if_pos h]; exact .inl (by simp [Dv.at])
  · rw [if_neg h]
    have hle := pickOf_le l (d.rank k) (d.pend k).length
    generalize pickOf l (d.rank k) (d.pend k).length = t at hle
    unfold Dv.at
    by_cases h0 : t = 0
    · rw [if_pos h0]; exact .inl rfl
    · rw [if_neg h0]
      have h1 : t - 1 < (d.pend k).length := by omega
      refine .inr ?_
      rw [List.getD_eq_getElem?_getD, List.getElem?_eq_getElem h1]
      exact List.getElem_mem h1
theorem Opens.rest {n : Nat} {F : Nat → List Nat} {s : Nat → List Nat} (h : Opens n F s) (hn : 246 ≤ n) : ∃ T, Rest (fresh n F) T s := by
  obtain ⟨T, h1, h2, h3⟩ := h
  exact ⟨T, ⟨hn, h1, h2, rfl, fun k a b => ⟨h3 k a b, rfl⟩⟩, fun _ => rfl⟩
theorem Safe.crash {d : Dv} {s t : Nat → List Nat} (h : Safe d s t) (hn : 246 ≤ d.n) (l : List Int) : (∃ T, Rest (d.crash l) T s) ∨ ∃ T, Rest (d.crash l) T t := by
  rcases h _ (crash_left d l) with q | q
  · exact .inl (q.rest hn)
  · exact .inr (q.rest hn)
theorem Rest.safe {d : Dv} {T : List (List Nat)} {s : Nat → List Nat} (h : Rest d T s) (t : Nat → List Nat) : Safe d s t := h.ph.safe t
theorem Rest.crash {d : Dv} {T : List (List Nat)} {s : Nat → List Nat} (h : Rest d T s) (l : List Int) : ∃ T, Rest (d.crash l) T s := by
  rcases (h.safe s).crash h.ph.n246 l with q | q <;> exact q
theorem Rest.flush {d : Dv} {T : List (List Nat)} {s : Nat → List Nat} (h : Rest d T s) : Rest d.flush T s := h.ph.flush
/-- The counters go on. -/
structure Next (d d' : Dv) (m : Nat) : Prop where
  n : d'.n = d.n
  cut : d'.cut = d.cut
  ops : d'.ops ≤ d.ops + m
theorem Next.refl (d : Dv) (m : Nat) : Next d d m := ⟨rfl, rfl, by omega⟩
theorem Next.trans {d d1 d2 : Dv} {m k l : Nat} (h : Next d d1 m) (g : Next d1 d2 k) (hl : m + k ≤ l) : Next d d2 l := ⟨g.n.trans h.n, g.cut.trans h.cut, by have := h.ops; have := g.ops; omega⟩
theorem Next.tick (d : Dv) : Next d d.tick 1 := ⟨rfl, rfl, Nat.le_refl _⟩
theorem Next.add (d : Dv) (k : Nat) (c : List Nat) : Next d (d.tick.add k c) 1 := ⟨rfl, rfl, Nat.le_refl _⟩
theorem Next.flush (d : Dv) : Next d d.tick.flush 1 := ⟨rfl, rfl, Nat.le_refl _⟩
theorem Next.mono {d d' : Dv} {m k : Nat} (h : Next d d' m) (hl : m ≤ k) : Next d d' k := ⟨h.n, h.cut, by have := h.ops; omega⟩
end Go.Proofs.YtohncckmennfbaaDoor
