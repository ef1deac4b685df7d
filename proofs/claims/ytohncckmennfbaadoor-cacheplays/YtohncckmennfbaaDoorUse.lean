/- The device as the laws use it: which blocks are its own, what each call leaves. -/
import Derived.Test.YtohncckmennfbaaDoorAlk
namespace Go.Proofs.YtohncckmennfbaaDoor
set_option linter.unusedSimpArgs false
set_option linter.unusedVariables false
open Go.RowKit Go.MapKept
/-- A device at block p; F: the blocks that are its own. -/
def Dev (w : World) (p : Nat) (F : List Nat) (d : Dv) : Prop := ∃ fb pb tb, F = fp p fb pb tb ∧ DevIs w p fb pb tb d
theorem Dev.lt {w : World} {p : Nat} {F : List Nat} {d : Dv} (h : Dev w p F d) : ∀ x ∈ F, x < w.heap.size := by
  obtain ⟨fb, pb, tb, rfl, h⟩ := h; exact h.lt
theorem Dev.keeps {w w' : World} {p : Nat} {F G : List Nat} {d : Dv} (h : Dev w p F d) (k : Keeps G w w') (hd : ∀ x ∈ F, x ∉ G) : Dev w' p F d := by
  obtain ⟨fb, pb, tb, rfl, h⟩ := h; exact ⟨fb, pb, tb, rfl, h.keeps k hd⟩
theorem Dev.below {w w' : World} {p : Nat} {F : List Nat} {d : Dv} (h : Dev w p F d) (hb : Below w.heap.size w w') : Dev w' p F d := by
  obtain ⟨fb, pb, tb, rfl, h⟩ := h; exact ⟨fb, pb, tb, rfl, h.below hb⟩
theorem Dev.ok {w : World} {p : Nat} {F : List Nat} {d : Dv} (h : Dev w p F d) : d.Ok := by
  obtain ⟨fb, pb, tb, rfl, h⟩ := h; exact h.ok
/-- The new own blocks are old ones, or new. -/
def Grows (w : World) (F F' : List Nat) : Prop := ∀ x ∈ F', x ∈ F ∨ w.heap.size ≤ x
theorem Grows.refl (w : World) (F : List Nat) : Grows w F F := fun _ h => .inl h
def Dv.flushed (d : Dv) : Dv := if d.on then d.tick.flush else d.tick
theorem newD (n : Nat) (w : World) (h1 : 1 ≤ n) (h2 : n ≤ 65536) :
    Calls Tryd.prog 27 #[.int .i64 (n : Int)] w fun e w' => ∃ p F, e = .returned (.tuple #[.pointer (some ⟨p, 0, none⟩), .int .i64 0]) ∧ Dev w' p F (fresh n fun _ => zeros) ∧ (∀ x ∈ F, w.heap.size ≤ x) ∧ Below w.heap.size w w' := by
  refine (new_any n w h1 h2).mono ?_
  rintro e w' ⟨p, fb, pb, tb, rfl, hd, hf, hb⟩
  exact ⟨p, _, rfl, ⟨fb, pb, tb, rfl, hd⟩, hf, hb⟩
theorem writeD {w : World} {p : Nat} {F : List Nat} {d : Dv} (h : Dev w p F d) (k : Int) (g : Nat) (c : List Nat) {ty : Nat} (hty : ty ≠ 75) (hc : Full w g ty c) (hb : ∀ i, c.getD i 0 < 256) (hlen : c.length ≤ 1000000) (ho : d.ops < 1000000) :
    Calls Tryd.prog 70 #[.pointer (some ⟨p, 0, none⟩), .int .i64 k, .slice (some ⟨g, 0, none⟩) c.length c.length] w fun e w' => e = .returned (.int .i64 (d.wcode k c.length)) ∧ ∃ F', Dev w' p F' (d.wrote k c) ∧ Keeps F w w' ∧ Grows w F F' := by
  obtain ⟨fb, pb, tb, rfl, h⟩ := h
  have hgp : g ≠ p := fun e => by
    have := h.cells
    unfold Full at hc
    rw [← e, hc] at this
    injection this with q
    injection q with _ q2
    exact hty q2
  cases hon : d.on with
  | false =>
    refine (write_off p fb pb tb d k _ w h ho hon).mono ?_
    rintro e w' ⟨rfl, hd, hk⟩
    refine ⟨by simp [Dv.wcode, hon], _, ⟨fb, pb, tb, rfl, ?_⟩, hk.mono (by simp [fp]), Grows.refl _ _⟩
    simpa [Dv.wrote, hon] using hd
  | true =>
    cases hk : (hasB d.n k && c.length == 512) with
    | false =>
      refine (write_arg p fb pb tb d k _ _ _ w h ho hon hk hlen).mono ?_
      rintro e w' ⟨rfl, hd, hkk⟩
      refine ⟨by simp [Dv.wcode, hon, hk], _, ⟨fb, pb, tb, rfl, ?_⟩, hkk.mono (by simp [fp]), Grows.refl _ _⟩
      simpa [Dv.wrote, hon, hk] using hd
    | true =>
      obtain ⟨hk1, hk2⟩ : hasB d.n k = true ∧ c.length = 512 := by simpa using hk
      have hk3 : 0 ≤ k ∧ k < d.n := by simpa [hasB] using hk1
      obtain ⟨j, rfl⟩ := Int.eq_ofNat_of_zero_le hk3.1
      rw [hk2]
      refine (write_ok p fb pb tb d j g c w h ho hon (by omega) hc hk2 hb hgp).mono ?_
      rintro e w' ⟨rfl, hd, hkk⟩
      rw [hk2] at hk
      refine ⟨by simp only [Dv.wcode, hon, hk, if_true], _, ⟨fb, pb, tb, rfl, ?_⟩, hkk.mono (by simp [fp]), Grows.refl _ _⟩
      have : d.wrote (j : Int) c = d.tick.add j c := by rw [Dv.wrote, hon, hk2, hk]; simp
      rw [this]; exact hd
theorem flushD {w : World} {p : Nat} {F : List Nat} {d : Dv} (h : Dev w p F d) (ho : d.ops < 1000000) :
    Calls Tryd.prog 39 #[.pointer (some ⟨p, 0, none⟩)] w fun e w' => e = .returned (.int .i64 (if d.on then 0 else 9)) ∧ ∃ F', Dev w' p F' d.flushed ∧ Keeps F w w' ∧ Grows w F F' := by
  obtain ⟨fb, pb, tb, rfl, h⟩ := h
  cases hon : d.on with
  | false =>
    refine (flush_off p fb pb tb d w h ho hon).mono ?_
    rintro e w' ⟨rfl, hd, hk⟩
    refine ⟨by simp, _, ⟨fb, pb, tb, rfl, by simpa [Dv.flushed, hon] using hd⟩, hk.mono (by simp [fp]), Grows.refl _ _⟩
  | true =>
    refine (flush_on p fb pb tb d w h ho hon).mono ?_
    rintro e w' ⟨pb', tb', rfl, hd, hk, h1, h2⟩
    refine ⟨by simp, _, ⟨fb, pb', tb', rfl, by simpa [Dv.flushed, hon] using hd⟩, hk, ?_⟩
    intro x hx
    simp only [fp, List.mem_cons, List.not_mem_nil, or_false] at hx ⊢
    omega
theorem cutD {w : World} {p : Nat} {F : List Nat} {d : Dv} (h : Dev w p F d) (k : Int) (hk : k ≤ 9223372036854775807) :
    Calls Tryd.prog 22 #[.pointer (some ⟨p, 0, none⟩), .int .i64 k] w fun e w' => (∃ v, e = .returned v) ∧ ∃ F', Dev w' p F' (d.cutAt k) ∧ Keeps F w w' ∧ Grows w F F' := by
  obtain ⟨fb, pb, tb, rfl, h⟩ := h
  refine (cut_any p fb pb tb d k w h hk).mono ?_
  rintro e w' ⟨hv, hd, hkk⟩
  exact ⟨hv, _, ⟨fb, pb, tb, rfl, hd⟩, hkk.mono (by simp [fp]), Grows.refl _ _⟩
theorem readD {w : World} {p : Nat} {F : List Nat} {d : Dv} (h : Dev w p F d) (k : Nat) (hk : k < d.n) :
    Calls Tryd.prog 37 #[.pointer (some ⟨p, 0, none⟩), .int .i64 (k : Int)] w fun e w' => ∃ g, e = .returned (.tuple #[.slice (some ⟨g, 0, none⟩) 512 512, .int .i64 0]) ∧ Full w' g 83 (d.cur k) ∧ w.heap.size ≤ g ∧ Below w.heap.size w w' := by
  obtain ⟨fb, pb, tb, rfl, h⟩ := h
  exact read_ok p fb pb tb d k w h hk
theorem blocksD {w : World} {p : Nat} {F : List Nat} {d : Dv} (h : Dev w p F d) :
    Calls Tryd.prog 35 #[.pointer (some ⟨p, 0, none⟩)] w fun e w' => e = .returned (.int .i64 (d.n : Int)) ∧ w' = w := by
  obtain ⟨fb, pb, tb, rfl, h⟩ := h
  exact blocks_any p fb pb tb d w h
/-- One device, all of whose blocks are new since B. -/
structure Sole (B : Nat) (w0 w : World) (p : Nat) (d : Dv) : Prop where
  dev : ∃ F, Dev w p F d ∧ ∀ x ∈ F, B ≤ x
  bel : Below B w0 w
  size : B ≤ w.heap.size
theorem Sole.below {B : Nat} {w0 w w' : World} {p : Nat} {d : Dv} (h : Sole B w0 w p d) (hb : Below w.heap.size w w') : Sole B w0 w' p d := by
  obtain ⟨⟨F, hd, hF⟩, h1, h2⟩ := h
  exact ⟨⟨F, hd.below hb, hF⟩, h1.trans (hb.mono h2), Nat.le_trans h2 hb.size⟩
theorem Sole.step {B : Nat} {w0 w w' : World} {p : Nat} {d' : Dv} {F F' : List Nat} (h1 : Below B w0 w) (h2 : B ≤ w.heap.size) (hF : ∀ x ∈ F, B ≤ x) (hd : Dev w' p F' d') (k : Keeps F w w') (g : Grows w F F') : Sole B w0 w' p d' :=
  ⟨⟨F', hd, fun x hx => by rcases g x hx with q | q; exact hF x q; omega⟩, h1.trans (k.below hF h2), Nat.le_trans h2 k.size⟩
theorem soleW {B : Nat} {w0 w : World} {p : Nat} {d : Dv} (h : Sole B w0 w p d) (k : Int) (g : Nat) (c : List Nat) {ty : Nat} (hty : ty ≠ 75) (hc : Full w g ty c) (hb : ∀ i, c.getD i 0 < 256) (hlen : c.length ≤ 1000000) (ho : d.ops < 1000000) :
    Calls Tryd.prog 70 #[.pointer (some ⟨p, 0, none⟩), .int .i64 k, .slice (some ⟨g, 0, none⟩) c.length c.length] w fun e w' => e = .returned (.int .i64 (d.wcode k c.length)) ∧ Sole B w0 w' p (d.wrote k c) := by
  obtain ⟨⟨F, hd, hF⟩, h1, h2⟩ := h
  refine (writeD hd k g c hty hc hb hlen ho).mono ?_
  rintro e w' ⟨rfl, F', hd', hk, hg⟩
  exact ⟨rfl, Sole.step h1 h2 hF hd' hk hg⟩
theorem soleF {B : Nat} {w0 w : World} {p : Nat} {d : Dv} (h : Sole B w0 w p d) (ho : d.ops < 1000000) :
    Calls Tryd.prog 39 #[.pointer (some ⟨p, 0, none⟩)] w fun e w' => e = .returned (.int .i64 (if d.on then 0 else 9)) ∧ Sole B w0 w' p d.flushed := by
  obtain ⟨⟨F, hd, hF⟩, h1, h2⟩ := h
  refine (flushD hd ho).mono ?_
  rintro e w' ⟨rfl, F', hd', hk, hg⟩
  exact ⟨rfl, Sole.step h1 h2 hF hd' hk hg⟩
end Go.Proofs.YtohncckmennfbaaDoor
