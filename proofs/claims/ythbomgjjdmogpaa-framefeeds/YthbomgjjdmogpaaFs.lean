/- What Feed leaves: rows of frames, a Feeder's state; a Feeder that is none or shut. -/
import Derived.Test.YthbomgjjdmogpaaTb
namespace Go.Proofs.Ythbomgjjdmogpaa
set_option linter.unusedSimpArgs false
set_option linter.unusedVariables false
open Go.RowKit
/-- A frame: its bytes, and where they lie. -/
structure Fr where
  a : Option Addr
  cap : Nat
  b : List Nat
def frz : Fr := ⟨none, 0, []⟩
def Fr.v (f : Fr) : Value := .slice f.a f.b.length f.cap
/-- Frames that can be read, apart from these blocks. -/
def AllF (w : World) (E : List Nat) (fs : List Fr) : Prop := ∀ f, f ∈ fs → Row w f.a f.b ∧ ∀ x, f.a = some x → x.block ∉ E ∧ ∃ cs, w.heap[x.block]? = some (.cells cs 5 (0, 0))
theorem AllF.nil (w : World) (E : List Nat) : AllF w E [] := fun f hf => by simp at hf
theorem AllF.lt {w : World} {E : List Nat} {fs : List Fr} (h : AllF w E fs) {f : Fr} (hf : f ∈ fs) {x : Addr} (hx : f.a = some x) : x.block < w.heap.size := by
  obtain ⟨cs, e⟩ := ((h f hf).2 x hx).2
  exact (Array.getElem?_eq_some_iff.1 e).1
theorem AllF.keeps {w w' : World} {E F : List Nat} {fs : List Fr} (h : AllF w E fs) (k : Keeps F w w') (hs : ∀ x ∈ F, x ∈ E ∨ w.heap.size ≤ x) : AllF w' E fs := by
  intro f hf
  obtain ⟨hr, ho⟩ := h f hf
  have hb : ∀ x, f.a = some x → w'.heap[x.block]? = w.heap[x.block]? := fun x hx => by
    have hlt := h.lt hf hx
    exact k.block x.block hlt (fun hm => by
      rcases hs _ hm with q | q
      · exact (ho _ hx).1 q
      · omega)
  refine ⟨?_, fun x hx => ⟨(ho x hx).1, by rw [hb x hx]; exact (ho x hx).2⟩⟩
  intro i hi
  obtain ⟨b, off, e, hc, hl⟩ := hr i hi
  exact ⟨b, off, e, by rw [World.cell?_of_block (a := ⟨b, off + i, none⟩) (show w'.heap[b]? = w.heap[b]? from hb ⟨b, off, none⟩ e)]; exact hc, hl⟩
theorem AllF.less {w : World} {E F : List Nat} {fs : List Fr} (h : AllF w E fs) (hs : ∀ x ∈ F, x ∈ E ∨ w.heap.size ≤ x) : AllF w F fs := fun f hf =>
  ⟨(h f hf).1, fun x hx => ⟨fun q => by
    rcases hs _ q with a | a
    · exact ((h f hf).2 x hx).1 a
    · have := h.lt hf hx; omega, ((h f hf).2 x hx).2⟩⟩
/-- Frames lie apart from a row of other things. -/
theorem AllF.more {w : World} {E : List Nat} {fs : List Fr} (h : AllF w E fs) {g : Nat} {cs : Array Value} {t : TypeId} {fr : Nat × Nat} (hg : w.heap[g]? = some (.cells cs t fr)) (ht : t ≠ 5) : AllF w (g :: E) fs := fun f hf =>
  ⟨(h f hf).1, fun x hx => ⟨fun q => by
    rcases List.mem_cons.1 q with a | a
    · obtain ⟨cs', e⟩ := ((h f hf).2 x hx).2
      rw [a, hg] at e
      simp at e
      exact ht e.2.1
    · exact ((h f hf).2 x hx).1 a, ((h f hf).2 x hx).2⟩⟩
theorem AllF.app {w : World} {E : List Nat} {a b : List Fr} (h : AllF w E a) (k : AllF w E b) : AllF w E (a ++ b) := fun f hf => by
  rcases List.mem_append.1 hf with q | q
  · exact h f q
  · exact k f q
/-- A Feeder's blocks. -/
def fp (p : Nat) (v : Value) : List Nat := p :: v.ownBlock.toList
/-- A Feeder in block p, with the bytes q that wait. -/
structure FeIs (w : World) (B p : Nat) (v : Value) (q : List Nat) (sh : Bool) : Prop where
  ex : ∃ hd, FBox w p hd (min 4 q.length) v sh ∧ hd.take (min 4 q.length) = q.take 4
  lt : ∀ i, q.getD i 0 < 256
  body : (v = .slice none 0 0 ∧ q.length ≤ 4) ∨ ∃ g, v = .slice (some ⟨g, 0, none⟩) (q.length - 4) (be q) ∧ Own B w g (be q) (q.drop 4) ∧ 4 ≤ q.length
  ge : B ≤ p
  rest : Rest q
  off : sh = true → q = []
theorem FeIs.lts {w : World} {B p : Nat} {v : Value} {q : List Nat} {sh : Bool} (h : FeIs w B p v q sh) : ∀ x ∈ fp p v, B ≤ x ∧ x < w.heap.size := by
  obtain ⟨hd, hb, _⟩ := h.ex
  intro x hx
  rcases List.mem_cons.1 hx with rfl | hx
  · exact ⟨h.ge, (Array.getElem?_eq_some_iff.1 hb.box).1⟩
  · rcases h.body with ⟨rfl, _⟩ | ⟨g, rfl, ho, _⟩
    · simp [Value.ownBlock] at hx
    · simp [Value.ownBlock] at hx
      subst hx
      exact ho.ge
theorem FeIs.keeps {w w' : World} {B p : Nat} {v : Value} {q : List Nat} {sh : Bool} {F : List Nat} (h : FeIs w B p v q sh) (k : Keeps F w w') (hn : ∀ x ∈ fp p v, x ∉ F) : FeIs w' B p v q sh := by
  obtain ⟨hd, hb, ht⟩ := h.ex
  refine ⟨⟨hd, hb.keeps k (hn p (by simp [fp])), ht⟩, h.lt, ?_, h.ge, h.rest, h.off⟩
  rcases h.body with q | ⟨g, rfl, ho, h4⟩
  · exact .inl q
  · exact .inr ⟨g, rfl, k.owns ho (fun x e => by simp [Value.ownBlock] at e; subst e; exact hn g (by simp [fp, Value.ownBlock])), h4⟩
/-- Behind Feed. -/
def FDP (w : World) (B p : Nat) (v : Value) (r : List (List Nat) × Bool × List Nat) (e : Ending) (w' : World) : Prop :=
  ∃ T fs v', e = .returned (.tuple #[T, .bool r.2.1]) ∧ w'.ownsRow w.heap.size 23 1 T fs.length (fs.map Fr.v) ∧ fs.map (·.b) = r.1 ∧ AllF w' (fp p v') fs ∧ FeIs w' B p v' r.2.2 (!r.2.1) ∧ Keeps (fp p v) w w' ∧ (∀ x, v'.ownBlock = some x → v.ownBlock = some x ∨ w.heap.size ≤ x) ∧ ∀ f, f ∈ fs → ∀ x, f.a = some x → v.ownBlock = some x.block ∨ w.heap.size ≤ x.block
theorem feed_none (a : Option Addr) (n cap : Nat) (w : World) :
    Calls Try.prog 12 #[.pointer none, .slice a n cap] w fun e w' => e = .returned (.tuple #[.slice none 0 0, .bool false]) ∧ w' = w := by
  go_enter Try.func12, Try.ntmps12
  go_wp2_with fail
  go_ret2
  exact ⟨rfl, rfl⟩
theorem feed_shut (B p : Nat) (v : Value) (q : List Nat) (a : Option Addr) (n cap : Nat) (w : World) (h : FeIs w B p v q true) :
    Calls Try.prog 12 #[.pointer (some ⟨p, 0, none⟩), .slice a n cap] w fun e w' => e = .returned (.tuple #[.slice none 0 0, .bool false]) ∧ w' = w := by
  obtain ⟨hd, hb, _⟩ := h.ex
  obtain ⟨z, z4, z5, z6, zf⟩ := hb.cells
  clear z zf hb h
  go_enter Try.func12, Try.ntmps12
  go_wp2_with fail
  go_ret2
  exact ⟨rfl, rfl⟩
theorem waiting_any (B p : Nat) (v : Value) (q : List Nat) (sh : Bool) (w : World) (h : FeIs w B p v q sh) :
    Calls Try.prog 15 #[.pointer (some ⟨p, 0, none⟩)] w fun e w' => e = .returned (.int .i64 (q.length : Int)) ∧ ∃ n, w' = w.drewN n := by
  obtain ⟨hd, hb, _⟩ := h.ex
  obtain ⟨z, z4, z5, z6, zf⟩ := hb.cells
  have hr := rest_len h.rest
  have hbd := h.body
  clear z zf hb h
  generalize q.length = n at *
  rcases hbd with ⟨rfl, h4⟩ | ⟨g, rfl, _, h4⟩
  · obtain ⟨m, hm⟩ : ∃ m, m = min 4 n := ⟨_, rfl⟩
    rw [← hm] at z4
    obtain rfl : m = n := by omega
    clear hm
    go_enter Try.func15, Try.ntmps15
    go_wp2_with fail
    go_quiet (fail)
    go_wp2_with fail
    go_ret
    exact ⟨retI (by simp), _, rfl⟩
  · obtain ⟨m, hm⟩ : ∃ m, m = n - 4 := ⟨_, rfl⟩
    rw [← hm] at z5
    rw [show min 4 n = 4 by omega] at z4
    obtain rfl : n = 4 + m := by omega
    clear hm h4
    go_enter Try.func15, Try.ntmps15
    go_wp2_with fail
    go_quiet (fail)
    go_wp2_with fail
    go_ret
    exact ⟨retI (by omega), _, rfl⟩
end Go.Proofs.Ythbomgjjdmogpaa
