/- Several devices and other blocks, apart from one another. -/
import Derived.Test.YtlieckifnkngnaaSz
namespace Go.Proofs.Ytlieckifnkngnaa
set_option linter.unusedSimpArgs false
set_option linter.unusedVariables false
open Go.RowKit Go.MapKept
/-- These devices lie in memory, all new since B, apart from one another and from the blocks G. -/
def Fam (B : Nat) (w : World) : List Nat → List (Nat × Dv) → Prop
  | _, [] => True
  | G, (p, d) :: r => ∃ F, Dev w p F d ∧ (∀ x ∈ F, B ≤ x ∧ x ∉ G) ∧ Fam B w (F ++ G) r
theorem Fam.mono {B : Nat} {w : World} : ∀ {l : List (Nat × Dv)} {G H : List Nat}, Fam B w G l → (∀ x ∈ H, x ∈ G ∨ w.heap.size ≤ x) → Fam B w H l
  | [], _, _, _, _ => trivial
  | (p, d) :: r, G, H, ⟨F, hd, hF, hr⟩, hs => by
    refine ⟨F, hd, fun x hx => ⟨(hF x hx).1, fun q => ?_⟩, Fam.mono hr (fun x hx => ?_)⟩
    · rcases hs x q with a | a
      · exact (hF x hx).2 a
      · have := hd.lt x hx; omega
    · rcases List.mem_append.1 hx with a | a
      · exact .inl (List.mem_append.2 (.inl a))
      · rcases hs x a with b | b
        · exact .inl (List.mem_append.2 (.inr b))
        · exact .inr b
theorem Fam.keeps {B : Nat} {w w' : World} : ∀ {l : List (Nat × Dv)} {G : List Nat}, Fam B w G l → Keeps G w w' → Fam B w' G l
  | [], _, _, _ => trivial
  | (p, d) :: r, G, ⟨F, hd, hF, hr⟩, k =>
    ⟨F, hd.keeps k (fun x hx => (hF x hx).2), hF, Fam.keeps hr (k.mono fun x hx => .inl (List.mem_append.2 (.inr hx)))⟩
theorem Fam.below {B : Nat} {w w' : World} {l : List (Nat × Dv)} {G : List Nat} (h : Fam B w G l) (hb : Below w.heap.size w w') : Fam B w' G l := h.keeps (Keeps.of_below hb G)
theorem Fam.swap {B : Nat} {w : World} {G : List Nat} {a b : Nat × Dv} {r : List (Nat × Dv)} (h : Fam B w G (a :: b :: r)) : Fam B w G (b :: a :: r) := by
  obtain ⟨pa, da⟩ := a
  obtain ⟨pb, db⟩ := b
  obtain ⟨F, hd, hF, F2, hd2, hF2, hr⟩ := h
  refine ⟨F2, hd2, fun x hx => ⟨(hF2 x hx).1, fun q => (hF2 x hx).2 (List.mem_append.2 (.inr q))⟩, F, hd, fun x hx => ⟨(hF x hx).1, fun q => ?_⟩, hr.mono fun x hx => .inl ?_⟩
  · rcases List.mem_append.1 q with a | a
    · exact (hF2 x a).2 (List.mem_append.2 (.inl hx))
    · exact (hF x hx).2 a
  · simp only [List.mem_append] at hx ⊢
    rcases hx with q | q | q
    · exact .inr (.inl q)
    · exact .inl q
    · exact .inr (.inr q)
theorem Fam.tail {B : Nat} {w : World} {G : List Nat} {a : Nat × Dv} {r : List (Nat × Dv)} (h : Fam B w G (a :: r)) : Fam B w G r := by
  obtain ⟨p, d⟩ := a
  obtain ⟨F, _, _, hr⟩ := h
  exact hr.mono fun x hx => .inl (List.mem_append.2 (.inr hx))
theorem Fam.head {B : Nat} {w : World} {G : List Nat} {p : Nat} {d : Dv} {r : List (Nat × Dv)} (h : Fam B w G ((p, d) :: r)) : ∃ F, Dev w p F d := by
  obtain ⟨F, hd, _⟩ := h
  exact ⟨F, hd⟩
/-- A new block that is no device's. -/
theorem Fam.cons {B : Nat} {w w' : World} {l : List (Nat × Dv)} {G : List Nat} (h : Fam B w G l) (hb : Below w.heap.size w w') (g : Nat) (hg : w.heap.size ≤ g) : Fam B w' (g :: G) l := by
  have : Fam B w (g :: G) l := h.mono fun x hx => by
    rcases List.mem_cons.1 hx with rfl | q
    · exact .inr hg
    · exact .inl q
  exact this.below hb
theorem or3 {x : Nat} {a b c : List Nat} (h : x ∈ a ++ (b ++ c)) : x ∈ b ++ (a ++ c) := by
  simp only [List.mem_append] at h ⊢
  rcases h with q | q | q
  · exact .inr (.inl q)
  · exact .inl q
  · exact .inr (.inr q)
/-- These blocks are as they were. -/
def Same (G : List Nat) (w w' : World) : Prop := ∀ g ∈ G, w'.heap[g]? = w.heap[g]?
theorem Fam.step {B : Nat} {w w' : World} {G F F' : List Nat} {p : Nat} {d' : Dv} {r : List (Nat × Dv)} (hG : ∀ g ∈ G, g < w.heap.size) (hB : B ≤ w.heap.size) (hF : ∀ x ∈ F, B ≤ x ∧ x ∉ G) (hr : Fam B w (F ++ G) r)
    (hd : Dev w' p F' d') (k : Keeps F w w') (g : Grows w F F') : Fam B w' G ((p, d') :: r) ∧ Same G w w' ∧ Below B w w' ∧ w.heap.size ≤ w'.heap.size := by
  refine ⟨⟨F', hd, fun x hx => ?_, ?_⟩, fun x hx => k.block x (hG x hx) (fun q => (hF x q).2 hx), k.below (fun x hx => (hF x hx).1) hB, k.size⟩
  · rcases g x hx with q | q
    · exact hF x q
    · exact ⟨by omega, fun e => by have := hG x e; omega⟩
  · have h1 : Fam B w' (F ++ G) r := hr.keeps (k.mono fun x hx => .inl (List.mem_append.2 (.inl hx)))
    have h2 : Fam B w (F' ++ G) r := hr.mono fun x hx => by
      rcases List.mem_append.1 hx with q | q
      · rcases g x q with a | a
        · exact .inl (List.mem_append.2 (.inl a))
        · exact .inr a
      · exact .inl (List.mem_append.2 (.inr q))
    have key : ∀ (l : List (Nat × Dv)) (H : List Nat), Fam B w (F ++ H) l → Fam B w (F' ++ H) l → Fam B w' (F' ++ H) l := by
      intro l
      induction l with
      | nil => intro H _ _; trivial
      | cons a l ih =>
        obtain ⟨q, e⟩ := a
        rintro H ⟨F1, hd1, hF1, hr1⟩ ⟨F2, hd2, hF2, hr2⟩
        obtain ⟨x1, y1, z1, rfl, i1⟩ := hd1
        obtain ⟨x2, y2, z2, rfl, i2⟩ := hd2
        have hc : (dcells e x1 y1 z1) = (dcells e x2 y2 z2) := by
          have := i1.cells
          rw [i2.cells] at this
          injection this with t
          injection t with t1
          exact t1.symm
        have : x1 = x2 ∧ y1 = y2 ∧ z1 = z2 := by
          simp [dcells] at hc
          exact hc
        obtain ⟨rfl, rfl, rfl⟩ := this
        refine ⟨_, ⟨x1, y1, z1, rfl, i1.keeps k (fun x hx => fun q => (hF1 x hx).2 (List.mem_append.2 (.inl q)))⟩, hF2, ?_⟩
        have s1 : Fam B w (F ++ (fp q x1 y1 z1 ++ H)) l := hr1.mono fun x hx => .inl (or3 hx)
        have s2 : Fam B w (F' ++ (fp q x1 y1 z1 ++ H)) l := hr2.mono fun x hx => .inl (or3 hx)
        have s3 := ih _ s1 s2
        exact s3.mono fun x hx => .inl (or3 hx)
    exact key r G hr h2
theorem famW {B : Nat} {w : World} {G : List Nat} {p : Nat} {d : Dv} {r : List (Nat × Dv)} (h : Fam B w G ((p, d) :: r)) (hG : ∀ g ∈ G, g < w.heap.size) (hB : B ≤ w.heap.size) (k : Int) (g : Nat) (c : List Nat) (hc : Full w g 5 c) (hb : ∀ i, c.getD i 0 < 256) (hlen : c.length ≤ 1000000) (ho : d.ops < 1000000) :
    Calls Try.prog 22 #[.pointer (some ⟨p, 0, none⟩), .int .i64 k, .slice (some ⟨g, 0, none⟩) c.length c.length] w fun e w' => e = .returned (.int .i64 (d.wcode k c.length)) ∧ Fam B w' G ((p, d.wrote k c) :: r) ∧ Same G w w' ∧ Below B w w' ∧ w.heap.size ≤ w'.heap.size := by
  obtain ⟨F, hd, hF, hr⟩ := h
  refine (writeD hd k g c hc hb hlen ho).mono ?_
  rintro e w' ⟨rfl, F', hd', hk, hg⟩
  exact ⟨rfl, Fam.step hG hB hF hr hd' hk hg⟩
theorem famF {B : Nat} {w : World} {G : List Nat} {p : Nat} {d : Dv} {r : List (Nat × Dv)} (h : Fam B w G ((p, d) :: r)) (hG : ∀ g ∈ G, g < w.heap.size) (hB : B ≤ w.heap.size) (ho : d.ops < 1000000) :
    Calls Try.prog 23 #[.pointer (some ⟨p, 0, none⟩)] w fun e w' => e = .returned (.int .i64 (if d.on then 0 else 9)) ∧ Fam B w' G ((p, d.flushed) :: r) ∧ Same G w w' ∧ Below B w w' ∧ w.heap.size ≤ w'.heap.size := by
  obtain ⟨F, hd, hF, hr⟩ := h
  refine (flushD hd ho).mono ?_
  rintro e w' ⟨rfl, F', hd', hk, hg⟩
  exact ⟨rfl, Fam.step hG hB hF hr hd' hk hg⟩
theorem famCut {B : Nat} {w : World} {G : List Nat} {p : Nat} {d : Dv} {r : List (Nat × Dv)} (h : Fam B w G ((p, d) :: r)) (hG : ∀ g ∈ G, g < w.heap.size) (hB : B ≤ w.heap.size) (k : Int) (hk : k ≤ 9223372036854775807) :
    Calls Try.prog 21 #[.pointer (some ⟨p, 0, none⟩), .int .i64 k] w fun e w' => (∃ v, e = .returned v) ∧ Fam B w' G ((p, d.cutAt k) :: r) ∧ Same G w w' ∧ Below B w w' ∧ w.heap.size ≤ w'.heap.size := by
  obtain ⟨F, hd, hF, hr⟩ := h
  refine (cutD hd k hk).mono ?_
  rintro e w' ⟨hv, F', hd', hk, hg⟩
  exact ⟨hv, Fam.step hG hB hF hr hd' hk hg⟩
/-- A new device beside the others. -/
theorem Fam.add {B : Nat} {w w' : World} {G F : List Nat} {c : Nat} {d : Dv} {l : List (Nat × Dv)} (h : Fam B w G l) (hG : ∀ g ∈ G, g < w.heap.size) (hB : B ≤ w.heap.size) (hb : Below w.heap.size w w') (hd : Dev w' c F d) (hF : ∀ x ∈ F, w.heap.size ≤ x) : Fam B w' G ((c, d) :: l) := by
  refine ⟨F, hd, fun x hx => ⟨by have := hF x hx; omega, fun q => by have := hF x hx; have := hG x q; omega⟩, ?_⟩
  have : Fam B w (F ++ G) l := h.mono fun x hx => by
    rcases List.mem_append.1 hx with q | q
    · exact .inr (hF x q)
    · exact .inl q
  exact this.below hb
theorem famNew {B : Nat} {w : World} {G : List Nat} {l : List (Nat × Dv)} (h : Fam B w G l) (hG : ∀ g ∈ G, g < w.heap.size) (hB : B ≤ w.heap.size) (n : Nat) (h1 : 1 ≤ n) (h2 : n ≤ 65536) :
    Calls Try.prog 13 #[.int .i64 (n : Int)] w fun e w' => ∃ p, e = .returned (.tuple #[.pointer (some ⟨p, 0, none⟩), .int .i64 0]) ∧ Fam B w' G ((p, fresh n fun _ => zeros) :: l) ∧ Below w.heap.size w w' := by
  refine (newD n w h1 h2).mono ?_
  rintro e w' ⟨p, F, rfl, hd, hF, hb⟩
  exact ⟨p, rfl, h.add hG hB hb hd hF, hb⟩
theorem famC {B : Nat} {w : World} {G : List Nat} {p : Nat} {d : Dv} {r : List (Nat × Dv)} (h : Fam B w G ((p, d) :: r)) (hG : ∀ g ∈ G, g < w.heap.size) (hB : B ≤ w.heap.size) (a : Option Addr) (l : List Int) (cap : Nat) (hl : RowI w a l) (hll : l.length ≤ 9223372036854775807) :
    Calls Try.prog 25 #[.pointer (some ⟨p, 0, none⟩), .slice a l.length cap] w fun e w' => ∃ c, e = .returned (.pointer (some ⟨c, 0, none⟩)) ∧ Fam B w' G ((c, d.crash l) :: (p, d) :: r) ∧ Below w.heap.size w w' := by
  obtain ⟨F0, hd0⟩ := h.head
  refine (crashD hd0 a l cap hl hll).mono ?_
  rintro e w' ⟨c, F, rfl, hd, hF, hb⟩
  exact ⟨c, rfl, h.add hG hB hb hd hF, hb⟩
theorem famCopy {B : Nat} {w : World} {G : List Nat} {p : Nat} {d : Dv} {r : List (Nat × Dv)} (h : Fam B w G ((p, d) :: r)) (hG : ∀ g ∈ G, g < w.heap.size) (hB : B ≤ w.heap.size) :
    Calls Try.prog 26 #[.pointer (some ⟨p, 0, none⟩)] w fun e w' => ∃ c, e = .returned (.pointer (some ⟨c, 0, none⟩)) ∧ Fam B w' G ((c, d) :: (p, d) :: r) ∧ Below w.heap.size w w' := by
  obtain ⟨F0, hd0⟩ := h.head
  refine (copyD hd0).mono ?_
  rintro e w' ⟨c, F, rfl, hd, hF, hb⟩
  exact ⟨c, rfl, h.add hG hB hb hd hF, hb⟩
theorem famR {B : Nat} {w : World} {G : List Nat} {p : Nat} {d : Dv} {r : List (Nat × Dv)} (h : Fam B w G ((p, d) :: r)) (k : Nat) (hk : k < d.n) :
    Calls Try.prog 18 #[.pointer (some ⟨p, 0, none⟩), .int .i64 (k : Int)] w fun e w' => ∃ g, e = .returned (.tuple #[.slice (some ⟨g, 0, none⟩) 512 512, .int .i64 0]) ∧ Full w' g 75 (d.cur k) ∧ w.heap.size ≤ g ∧ Below w.heap.size w w' := by
  obtain ⟨F0, hd0⟩ := h.head
  exact readD hd0 k hk
end Go.Proofs.Ytlieckifnkngnaa
