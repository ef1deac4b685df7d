/- The walk of FrameApart. -/
import Derived.Test.YthbomgjjdmogpaaAc
namespace Go.Proofs.Ythbomgjjdmogpaa
set_option linter.unusedSimpArgs false
set_option linter.unusedVariables false
open Go.RowKit
theorem AllF.with {w : World} {E E' : List Nat} {fs : List Fr} (h : AllF w E fs) (ho : ∀ f, f ∈ fs → ∀ x, f.a = some x → x.block ∉ E') : AllF w E' fs := fun f hf => ⟨(h f hf).1, fun x hx => ⟨ho f hf x hx, ((h f hf).2 x hx).2⟩⟩
/-- Two Feeders with their rows, apart from each other, and two rows beside them. -/
structure ApS (W x : World) (B pf pg : Nat) (vf vg Tp Tq : Value) (fsp fsq : List Fr) (Tx Ty : Value) (fsx fsy : List Fr) (la lb : List Nat) (ka kb : Nat) : Prop where
  a1 : Acc x B pf vf (frames (la.take ka)).2.2 (!(frames (la.take ka)).2.1) Tp fsp
  m1 : fsp.map (·.b) = (frames (la.take ka)).1
  a2 : Acc x B pg vg (frames (lb.take kb)).2.2 (!(frames (lb.take kb)).2.1) Tq fsq
  m2 : fsq.map (·.b) = (frames (lb.take kb)).1
  c1 : ∀ z ∈ ft pf vf Tp, z ∉ ft pg vg Tq
  c2 : ∀ f, f ∈ fsp → ∀ z, f.a = some z → z.block ∉ ft pg vg Tq
  c3 : ∀ f, f ∈ fsq → ∀ z, f.a = some z → z.block ∉ ft pf vf Tp
  sx : Stat x (ft pf vf Tp ++ ft pg vg Tq) Tx fsx
  sy : Stat x (ft pf vf Tp ++ ft pg vg Tq) Ty fsy
  bel : Below B W x
  hB : B ≤ x.heap.size
theorem Stat.swap {w : World} {E E' : List Nat} {T : Value} {fs : List Fr} (h : Stat w (E ++ E') T fs) : Stat w (E' ++ E) T fs :=
  h.step (Keeps.refl [] w) (by simp) (fun x hx => .inl (by rcases List.mem_append.1 hx with q | q; exact List.mem_append.2 (.inr q); exact List.mem_append.2 (.inl q)))
theorem ApS.swap {W x : World} {B pf pg : Nat} {vf vg Tp Tq : Value} {fsp fsq : List Fr} {Tx Ty : Value} {fsx fsy : List Fr} {la lb : List Nat} {ka kb : Nat} (h : ApS W x B pf pg vf vg Tp Tq fsp fsq Tx Ty fsx fsy la lb ka kb) : ApS W x B pg pf vg vf Tq Tp fsq fsp Tx Ty fsx fsy lb la kb ka :=
  ⟨h.a2, h.m2, h.a1, h.m1, fun z h1 h2 => h.c1 z h2 h1, h.c3, h.c2, h.sx.swap, h.sy.swap, h.bel, h.hB⟩
/-- One more piece for the first. -/
theorem ApS.one {W x w2 w3 : World} {B pf pg : Nat} {vf vg Tp Tq : Value} {fsp fsq : List Fr} {Tx Ty : Value} {fsx fsy : List Fr} {la lb : List Nat} {ka kb k2 : Nat} (h : ApS W x B pf pg vf vg Tp Tq fsp fsq Tx Ty fsx fsy la lb ka kb)
    {v' T' : Value} {fz : List Fr} (h1 : Step x w2 pf vf Tp v' Tp) (h2 : Acc w2 B pf v' (frames (la.take k2)).2.2 (!(frames (la.take k2)).2.1) Tp fsp) (h3 : AllF w2 (fp pf v') fz) (h4 : (fsp ++ fz).map (·.b) = (frames (la.take k2)).1) (h5 : Below B W w2)
    (h6 : w3.ownsRow B 23 1 T' (fsp ++ fz).length ((fsp ++ fz).map Fr.v)) (h7 : w2.grownBy w3 Tp.ownBlock) (h8 : T'.ownBlock = Tp.ownBlock ∨ ∀ y, T'.ownBlock = some y → w2.heap.size ≤ y)
    (h9 : ∀ f, f ∈ fz → ∀ y, f.a = some y → vf.ownBlock = some y.block ∨ x.heap.size ≤ y.block) : ApS W w3 B pf pg v' vg T' Tq (fsp ++ fz) fsq Tx Ty fsx fsy la lb k2 kb := by
  obtain ⟨h10, h11⟩ := h2.app h3 h6 h7 h8
  have st := h1.trans h11
  have hk := st.keep
  have hlt2 : ∀ z ∈ ft pg vg Tq, z < x.heap.size := fun z hz => (h.a2.lts z hz).2
  have hs2 : B ≤ w2.heap.size := by have e1 := h1.keep.size; have e2 := h.hB; omega
  have hfpt : ∀ z ∈ fp pg vg, z ∈ ft pg vg Tq := fun z hz => mem_ft.2 (by rcases mem_fp.1 hz with e | e; exact .inl e; exact .inr (.inl e))
  have hq : AllF x (ft pf vf Tp ++ fp pg vg) fsq := h.a2.all.with (fun f hf z hz hm => by
    rcases List.mem_append.1 hm with q | q
    · exact h.c3 f hf z hz q
    · exact ((h.a2.all f hf).2 z hz).1 q)
  have hnew : ∀ z ∈ ft pf v' T' ++ ft pg vg Tq, z ∈ ft pf vf Tp ++ ft pg vg Tq ∨ x.heap.size ≤ z := fun z hz => by
    rcases List.mem_append.1 hz with q | q
    · rcases st.new z q with r | r
      · exact .inl (List.mem_append.2 (.inl r))
      · exact .inr r
    · exact .inl (List.mem_append.2 (.inr q))
  have hst : ∀ {T : Value} {fs : List Fr}, Stat x (ft pf vf Tp ++ ft pg vg Tq) T fs → Stat w3 (ft pf v' T' ++ ft pg vg Tq) T fs := fun hs => hs.step hk (fun z hz => .inl (List.mem_append.2 (.inl hz))) hnew
  refine ⟨h10, h4, ⟨h.a2.fe.keeps hk (fun z hz hm => h.c1 z hm (hfpt z hz)), hk.owns h.a2.owns (fun z hz hm => h.c1 z hm (mem_ft.2 (.inr (.inr hz)))), (hq.keeps hk (fun z hz => .inl (List.mem_append.2 (.inl hz)))).less (fun z hz => .inl (List.mem_append.2 (.inr hz)))⟩, h.m2, fun z hz hm => ?_, fun f hf z hz hm => ?_, fun f hf z hz hm => ?_, hst h.sx, hst h.sy, h11.below h5 hs2 (fun z hz => (h2.lts z hz).1), by have e1 := hk.size; have e2 := h.hB; omega⟩
  · rcases st.new z hz with r | r
    · exact h.c1 z r hm
    · have := hlt2 z hm; omega
  · rcases List.mem_append.1 hf with q | q
    · exact h.c2 f q z hz hm
    · rcases h9 f q z hz with r | r
      · exact h.c1 _ (mem_ft.2 (.inr (.inl r))) hm
      · have := hlt2 _ hm; omega
  · rcases st.new _ hm with r | r
    · exact h.c3 f hf z hz r
    · have := h.a2.all.lt hf hz; omega
theorem ApS.in1 {W x : World} {B pf pg : Nat} {vf vg Tp Tq : Value} {fsp fsq : List Fr} {Tx Ty : Value} {fsx fsy : List Fr} {la lb : List Nat} {ka kb m : Nat} (h : ApS W x B pf pg vf vg Tp Tq fsp fsq Tx Ty fsx fsy la lb ka kb) {a : Option Addr} {cap : Nat} (hi : InE W [] a cap la) (hB : W.heap.size = B) (hm : ka + m ≤ la.length) (hl : la.length ≤ 1000000) :
    Calls Try.prog 12 #[.pointer (some ⟨pf, 0, none⟩), .slice (cutA a cap ka) m (cap - ka)] x fun e w2 => ∃ az cz fz v', e = .returned (.tuple #[.slice az fz.length cz, .bool (frames (la.take (ka + m))).2.1]) ∧ FCells w2 az fz ∧ (az = none → cz = 0) ∧ fsp.length + fz.length ≤ 1000000 ∧ w2.ownsRow B 23 1 Tp fsp.length (fsp.map Fr.v) ∧ B ≤ w2.heap.size ∧
      ∀ (w3 : World) (T' : Value), w3.ownsRow B 23 1 T' (fsp ++ fz).length ((fsp ++ fz).map Fr.v) → w2.grownBy w3 Tp.ownBlock → (T'.ownBlock = Tp.ownBlock ∨ ∀ y, T'.ownBlock = some y → w2.heap.size ≤ y) → ApS W w3 B pf pg v' vg T' Tq (fsp ++ fz) fsq Tx Ty fsx fsy la lb (ka + m) kb := by
  refine (h.a1.feed h.m1 h.bel h.hB (((hi.arg h.bel hB (fun z hz => (h.a1.fe.lts z hz).1)).cut ka).take m) hm hl).mono ?_
  rintro e w2 ⟨az, cz, fz, v', rfl, h1, h2, h3, h4, h5, h6, h7, h8, h9⟩
  have e1 := h2.keep.size
  have e2 := h.hB
  exact ⟨az, cz, fz, v', rfl, h3, h4, h8, h1.owns, by omega, fun w3 T' q1 q2 q3 => h.one h2 h1 h5 h6 h7 q1 q2 q3 h9⟩
/-- New and Feed: nothing that was there has turned; what is told is new. -/
theorem fed_new {w0 W w3 : World} {B px : Nat} {a : Option Addr} {cap : Nat} {l : List Nat} (hi : InE w0 [] a cap l) (hB : w0.heap.size = B) (hb : Below B w0 W) (hf : FeIs w3 W.heap.size px (.slice none 0 0) [] false) (hb3 : Below W.heap.size W w3) (hl : l.length ≤ 1000000) :
    Calls Try.prog 12 #[.pointer (some ⟨px, 0, none⟩), .slice a l.length cap] w3 fun e w4 => ∃ T fs, e = .returned (.tuple #[T, .bool (frames l).2.1]) ∧ fs.map (·.b) = (frames l).1 ∧ Below W.heap.size W w4 ∧ ∀ E, (∀ x ∈ E, x < W.heap.size) → Stat w4 E T fs := by
  have hs : B ≤ W.heap.size := by have := hb.size; omega
  have hs3 : W.heap.size ≤ w3.heap.size := hb3.size
  refine (feed_any W.heap.size px _ [] false a cap l w3 hf (hi.arg (hb.trans (hb3.mono hs)) hB (fun x hx => by have := (hf.lts x hx).1; omega)) hs3 hl).mono ?_
  rintro e w4 ⟨T, fs, v, rfl, ho, hfs, hall, hfe, hk, hv, hbl⟩
  have e0 : feedS false [] l = frames l := rfl
  rw [e0] at hfs ⊢
  refine ⟨T, fs, rfl, hfs, FDP.below (F := []) hf hk hb3 hs3, fun E hE => ⟨⟨_, ho⟩, fun x hx hm => ?_, hall.with (fun f hf x hx hm => ?_)⟩⟩
  · have h1 := (ho.lt x hx).1
    have h2 := hE x hm
    omega
  · have h2 := hE _ hm
    rcases hbl f hf x hx with r | r
    · cases r
    · omega
/-- What the loop keeps. -/
def ApL (W : World) (B pf pg : Nat) (Tx Ty : Value) (fsx fsy : List Fr) (la lb : List Nat) (p q u v i : Value) (x : World) : Prop :=
  ∃ (k : Nat) (vf vg : Value) (fsp fsq : List Fr), k ≤ 20000 ∧ i = .int .i64 k ∧ u = .bool (frames (la.take (min k la.length))).2.1 ∧ v = .bool (frames (lb.take (min k lb.length))).2.1 ∧ ApS W x B pf pg vf vg p q fsp fsq Tx Ty fsx fsy la lb (min k la.length) (min k lb.length)
theorem ap_start {w w4 w6 : World} {B pf pg : Nat} {Tx Ty : Value} {fsx fsy : List Fr} {la lb : List Nat} (hB : w.heap.size = B) (h1 : FeIs w4 B pf (.slice none 0 0) [] false) (h2 : FeIs w4 B pg (.slice none 0 0) [] false) (hne : pf ≠ pg) (hb : Below B w w4) (hx : Stat w4 [pf, pg] Tx fsx) (hb6 : Below w4.heap.size w4 w6) (hy : Stat w6 [pf, pg] Ty fsy) :
    ApL w B pf pg Tx Ty fsx fsy la lb (.slice none 0 0) (.slice none 0 0) (.bool true) (.bool true) (.int .i64 0) w6 := by
  have hs : B ≤ w4.heap.size := by have := hb.size; omega
  have e1 : min 0 la.length = 0 := by omega
  have e2 : min 0 lb.length = 0 := by omega
  refine ⟨0, .slice none 0 0, .slice none 0 0, [], [], by omega, rfl, by rw [e1, List.take_zero, frames_nil], by rw [e2, List.take_zero, frames_nil], ?_⟩
  rw [e1, e2]
  have hs6 := hb6.size
  refine ⟨?_, by rw [List.take_zero, frames_nil]; rfl, ?_, by rw [List.take_zero, frames_nil]; rfl, fun z hz hm => ?_, fun f hf => by simp at hf, fun f hf => by simp at hf, hx.step (Keeps.of_below hb6 []) (by simp) (fun z hz => .inl hz), hy, hb.trans (hb6.mono hs), by omega⟩
  · rw [List.take_zero, frames_nil]; exact Acc.start (h1.below hb6)
  · rw [List.take_zero, frames_nil]; exact Acc.start (h2.below hb6)
  · simp [ft, Value.ownBlock] at hz hm
    omega
/-- Behind the loop: all was fed. -/
theorem ap_same {W x : World} {B pf pg : Nat} {vf vg Tp Tq : Value} {fsp fsq : List Fr} {Tx Ty : Value} {fsx fsy : List Fr} {la lb : List Nat} {ka kb : Nat} (h : ApS W x B pf pg vf vg Tp Tq fsp fsq Tx Ty fsx fsy la lb ka kb) (ha : ka = la.length) (hx : fsx.map (·.b) = (frames la).1) :
    Calls Try.prog 14 #[Tp, Tx] x fun e w' => e = .returned (.bool true) ∧ ∃ n, w' = x.drewN n := by
  subst ha
  obtain ⟨Bx, hox⟩ := h.sx.owns
  have hm := h.m1
  rw [List.take_length] at hm
  exact same_told h.a1.owns hox h.a1.all h.sx.all (by rw [hx, hm]) (by rw [hm]; exact frames_len la)
theorem ApS.drewN {W x : World} {B pf pg : Nat} {vf vg Tp Tq : Value} {fsp fsq : List Fr} {Tx Ty : Value} {fsx fsy : List Fr} {la lb : List Nat} {ka kb : Nat} (h : ApS W x B pf pg vf vg Tp Tq fsp fsq Tx Ty fsx fsy la lb ka kb) (n : Nat) : ApS W (x.drewN n) B pf pg vf vg Tp Tq fsp fsq Tx Ty fsx fsy la lb ka kb :=
  ⟨⟨h.a1.fe.drewN n, h.a1.owns, h.a1.all⟩, h.m1, ⟨h.a2.fe.drewN n, h.a2.owns, h.a2.all⟩, h.m2, h.c1, h.c2, h.c3, ⟨h.sx.owns, h.sx.off, h.sx.all⟩, ⟨h.sy.owns, h.sy.off, h.sy.all⟩, below_drewN h.bel n, h.hB⟩
theorem ApS.other {W x : World} {B pf pg : Nat} {vf vg Tp Tq : Value} {fsp fsq : List Fr} {Tx Ty : Value} {fsx fsy : List Fr} {la lb : List Nat} {ka kb : Nat} (h : ApS W x B pf pg vf vg Tp Tq fsp fsq Tx Ty fsx fsy la lb ka kb) : ApS W x B pg pf vg vf Tq Tp fsq fsp Ty Tx fsy fsx lb la kb ka :=
  ⟨h.a2, h.m2, h.a1, h.m1, fun z h1 h2 => h.c1 z h2 h1, h.c3, h.c2, h.sy.swap, h.sx.swap, h.bel, h.hB⟩
set_option maxHeartbeats 3200000 in
set_option maxRecDepth 100000 in
theorem apart_in (a : Option Addr) (capa : Nat) (la : List Nat) (b : Option Addr) (capb : Nat) (lb : List Nat) (size : Nat) (w : World) (hia : InE w [] a capa la) (hib : InE w [] b capb lb) (hla : la.length ≤ 3000) (hlb : lb.length ≤ 3000) (hs : 1 ≤ size) (hs2 : size ≤ 9223372036854775807) :
    Calls Try.prog 8 #[.slice a la.length capa, .slice b lb.length capb, .int .i64 (size : Int)] w fun e w' => e = .returned (.bool true) ∧ Below w.heap.size w w' := by
  have hI : ¬ (3000 : Int) < (la.length : Int) := by omega
  have hd : decide ((3000 : Int) < (la.length : Int)) = false := decide_eq_false hI
  have hI2 : ¬ (3000 : Int) < (lb.length : Int) := by omega
  have hd2 : decide ((3000 : Int) < (lb.length : Int)) = false := decide_eq_false hI2
  have hsI : ¬ (size : Int) < 1 := by omega
  have hsd : decide ((size : Int) < 1) = false := decide_eq_false hsI
  have HIA : Hid (InE w [] a capa la) := hia
  have HIB : Hid (InE w [] b capb lb) := hib
  have HA : Hid (∀ x : World, Calls Try.prog 10 #[] x fun e w' => e = .returned (.bool true) ∧ Below x.heap.size x w') := awake_any
  have HN : Hid (∀ W : World, Calls Try.prog 11 #[] W fun e w' => ∃ p, e = .returned (.pointer (some ⟨p, 0, none⟩)) ∧ W.heap.size ≤ p ∧ FeIs w' W.heap.size p (.slice none 0 0) [] false ∧ Below W.heap.size W w' ∧ Below W.heap.size W w') := fun W => new_fe W.heap.size W W (Below.refl _ _) (Nat.le_refl _)
  obtain ⟨B, HB⟩ : ∃ B, Hid (w.heap.size = B) := ⟨_, rfl⟩
  rw [HB.out]
  clear hia hib
  have HN1 : Hid (Calls Try.prog 11 #[] w fun e w1 => ∃ p, e = .returned (.pointer (some ⟨p, 0, none⟩)) ∧ FeIs w1 B p (.slice none 0 0) [] false ∧ Below B w w1) := (HN.out w).mono (by rintro e w1 ⟨p, rfl, h1, h2, h3, _⟩; rw [HB.out] at h2 h3; exact ⟨p, rfl, h2, h3⟩)
  have HN2 : Hid (∀ w1 pf, FeIs w1 B pf (.slice none 0 0) [] false → Below B w w1 → Calls Try.prog 11 #[] w1 fun e w2 => ∃ p, e = .returned (.pointer (some ⟨p, 0, none⟩)) ∧ FeIs w2 B pf (.slice none 0 0) [] false ∧ FeIs w2 B p (.slice none 0 0) [] false ∧ pf ≠ p ∧ Below B w w2) := fun w1 pf q1 q2 => (HN.out w1).mono (by
    rintro e w2 ⟨p, rfl, h1, h2, h3, _⟩
    have hs1 : B ≤ w1.heap.size := by have := q2.size; have := HB.out; omega
    have hp := (q1.lts pf (by simp [fp])).2
    exact ⟨p, rfl, q1.below h3, h2.base hs1, by omega, q2.trans (h3.mono hs1)⟩)
  have HF1 : Hid (∀ W w3 px, Below B w W → FeIs w3 W.heap.size px (.slice none 0 0) [] false → Below W.heap.size W w3 → Calls Try.prog 12 #[.pointer (some ⟨px, 0, none⟩), .slice a la.length capa] w3 fun e w4 => ∃ T fs, e = .returned (.tuple #[T, .bool (frames la).2.1]) ∧ fs.map (·.b) = (frames la).1 ∧ Below W.heap.size W w4 ∧ ∀ E, (∀ x ∈ E, x < W.heap.size) → Stat w4 E T fs) := fun W w3 px q1 q2 q3 => fed_new HIA.out HB.out q1 q2 q3 (by omega)
  have HF2 : Hid (∀ W w3 px, Below B w W → FeIs w3 W.heap.size px (.slice none 0 0) [] false → Below W.heap.size W w3 → Calls Try.prog 12 #[.pointer (some ⟨px, 0, none⟩), .slice b lb.length capb] w3 fun e w4 => ∃ T fs, e = .returned (.tuple #[T, .bool (frames lb).2.1]) ∧ fs.map (·.b) = (frames lb).1 ∧ Below W.heap.size W w4 ∧ ∀ E, (∀ x ∈ E, x < W.heap.size) → Stat w4 E T fs) := fun W w3 px q1 q2 q3 => fed_new HIB.out HB.out q1 q2 q3 (by omega)
  obtain ⟨oka, HOA⟩ : ∃ o, Hid ((frames la).2.1 = o) := ⟨_, rfl⟩
  obtain ⟨okb, HOB⟩ : ∃ o, Hid ((frames lb).2.1 = o) := ⟨_, rfl⟩
  rw [HOA.out] at HF1
  rw [HOB.out] at HF2
  go_enter Try.func8, Try.ntmps8
  go_wp2_with (first
    | (go_at_call 11; refine Calls.mono HN1.out ?_; rintro e w1 ⟨pf, rfl, q1, q2⟩; have S1 : Hid (FeIs w1 B pf (.slice none 0 0) [] false ∧ Below B w w1) := ⟨q1, q2⟩; clear q1 q2 HN1)
    | (go_at_call 11; have _t := S1; refine (HN2.out w1 pf S1.out.1 S1.out.2).mono ?_; rintro e w2 ⟨pg, rfl, q1, q2, q3, q4⟩; have S2 : Hid (FeIs w2 B pf (.slice none 0 0) [] false ∧ FeIs w2 B pg (.slice none 0 0) [] false ∧ pf ≠ pg ∧ Below B w w2) := ⟨q1, q2, q3, q4⟩; clear q1 q2 q3 q4 S1 _t)
    | (go_at_call 11; have _t := S2; refine (HN.out w2).mono ?_; rintro e w3 ⟨px, rfl, q1, q2, q3, -⟩; have S3 : Hid (FeIs w3 w2.heap.size px (.slice none 0 0) [] false ∧ Below w2.heap.size w2 w3) := ⟨q2, q3⟩; have S2b := S2; clear q1 q2 q3 S2 _t)
    | (go_at_call 12; have _t := S3; refine (HF1.out w2 w3 px S2b.out.2.2.2 S3.out.1 S3.out.2).mono ?_; rintro e w4 ⟨Tx, fsx, rfl, q1, q2, q3⟩; have S4 : Hid (FeIs w4 B pf (.slice none 0 0) [] false ∧ FeIs w4 B pg (.slice none 0 0) [] false ∧ pf ≠ pg ∧ Below B w w4 ∧ Stat w4 [pf, pg] Tx fsx) := ⟨S2b.out.1.below q2, S2b.out.2.1.below q2, S2b.out.2.2.1, S2b.out.2.2.2.trans (q2.mono (by have := S2b.out.2.2.2.size; have := HB.out; omega)), q3 _ (fun x hx => by have h1 := (S2b.out.1.lts pf (by simp [fp])).2; have h2 := (S2b.out.2.1.lts pg (by simp [fp])).2; simp at hx; omega)⟩; have HXA : Hid (fsx.map (·.b) = (frames la).1) := q1; clear q1 q2 q3 S3 _t)
    | (go_at_call 11; have _t := S4; refine (HN.out w4).mono ?_; rintro e w5 ⟨py, rfl, q1, q2, q3, -⟩; have S5 : Hid (FeIs w5 w4.heap.size py (.slice none 0 0) [] false ∧ Below w4.heap.size w4 w5) := ⟨q2, q3⟩; have S4b := S4; clear q1 q2 q3 S4 _t)
    | (go_at_call 12; have _t := S5; refine (HF2.out w4 w5 py S4b.out.2.2.2.1 S5.out.1 S5.out.2).mono ?_; rintro e w6 ⟨Ty, fsy, rfl, q1, q2, q3⟩; have HL0 : Hid (ApL w B pf pg Tx Ty fsx fsy la lb (.slice none 0 0) (.slice none 0 0) (.bool true) (.bool true) (.int .i64 0) w6) := ap_start HB.out S4b.out.1 S4b.out.2.1 S4b.out.2.2.1 S4b.out.2.2.2.1 S4b.out.2.2.2.2 q2 (q3 _ (fun x hx => by have h1 := (S4b.out.1.lts pf (by simp [fp])).2; have h2 := (S4b.out.2.1.lts pg (by simp [fp])).2; simp at hx; omega)); have HXB : Hid (fsy.map (·.b) = (frames lb).1) := q1; clear q1 q2 q3 S5 _t))
  clear HN HN2 HF1 HF2 S2b S4b
  go_loopw [13, 14, 15, 16, 17] (fun p q u v i x => ApL w B pf pg Tx Ty fsx fsy la lb p q u v i x) (fun _ _ _ _ i _ => 30000 - (intOf i).toNat)
  case atStart => exact HL0.out
  case round =>
    obtain ⟨k, vf, vg, fsp, fsq, hk, rfl, rfl, rfl, hap⟩ := hrel
    have HAP : Hid (ApS w wr B pf pg vf vg u13 u14 fsp fsq Tx Ty fsx fsy la lb (min k la.length) (min k lb.length)) := hap
    clear hap HL0
    by_cases hA : k < la.length
    · by_cases hBb : k < lb.length
      · by_cases hbr : 10000 < size
        · have tk : True := trivial
          have hBI : (k : Int) < (lb.length : Int) := by omega
          have hAI : (k : Int) < (la.length : Int) := by omega
          obtain ⟨La, HLa⟩ : ∃ La, Hid (la.length - k = La) := ⟨_, rfl⟩
          obtain ⟨ma, hma⟩ : ∃ m, m = min size (la.length - k) := ⟨_, rfl⟩
          have hmina : (if La < size then (La : Int) else (size : Int)) = (ma : Int) := by have := HLa.out; split <;> omega
          have hlka : (la.length : Int) - (k : Int) = (La : Int) := by have := HLa.out; omega
          have hma1 : 1 ≤ ma ∧ k + ma ≤ la.length ∧ ma ≤ 3000 := by omega
          have HMA : Hid (k + ma = min (k + size) la.length) := by show _ = _; omega
          have HFA : Hid (Calls Try.prog 12 #[.pointer (some ⟨pf, 0, none⟩), .slice (cutA a capa k) ma (capa - k)] wr fun e w2 => ∃ az cz fz v', e = .returned (.tuple #[.slice az fz.length cz, .bool (frames (la.take (k + ma))).2.1]) ∧ FCells w2 az fz ∧ (az = none → cz = 0) ∧ fsp.length + fz.length ≤ 1000000 ∧ w2.ownsRow B 23 1 u13 fsp.length (fsp.map Fr.v) ∧ B ≤ w2.heap.size ∧ ∀ (w3 : World) (T' : Value), w3.ownsRow B 23 1 T' (fsp ++ fz).length ((fsp ++ fz).map Fr.v) → w2.grownBy w3 u13.ownBlock → (T'.ownBlock = u13.ownBlock ∨ ∀ y, T'.ownBlock = some y → w2.heap.size ≤ y) → ApS w w3 B pf pg v' vg T' u14 (fsp ++ fz) fsq Tx Ty fsx fsy la lb (k + ma) (min k lb.length)) := by
            have e1 : min k la.length = k := by omega
            have h := HAP.out
            rw [e1] at h
            exact h.in1 HIA.out HB.out hma1.2.1 (by omega)
          have ksa : ∀ y, (Instr.slice 23 (.slice a la.length capa) (some (.int .i64 (k : Int))) (some (.int .i64 ((k : Int) + (ma : Int)))) none).run Try.prog y = .ok (.slice (cutA a capa k) ma (capa - k)) y := fun y => run_slice_mid y a la.length capa k ma hma1.2.1 HIA.out.le
          obtain rfl : ma = La := by have := HLa.out; omega
          clear hma
          obtain ⟨Ra, HRa⟩ : ∃ R, Hid ((frames (la.take (k + ma))).2.1 = R) := ⟨_, rfl⟩
          rw [HRa.out] at HFA
          obtain ⟨Lb, HLb⟩ : ∃ La, Hid (lb.length - k = La) := ⟨_, rfl⟩
          obtain ⟨mb, hmb⟩ : ∃ m, m = min size (lb.length - k) := ⟨_, rfl⟩
          have hminb : (if Lb < size then (Lb : Int) else (size : Int)) = (mb : Int) := by have := HLb.out; split <;> omega
          have hlkb : (lb.length : Int) - (k : Int) = (Lb : Int) := by have := HLb.out; omega
          have hmb1 : 1 ≤ mb ∧ k + mb ≤ lb.length ∧ mb ≤ 3000 := by omega
          have HMB : Hid (k + mb = min (k + size) lb.length) := by show _ = _; omega
          have HFB : Hid (∀ (W : World) (vf P : Value) (fsp : List Fr) (ka : Nat), ApS w W B pf pg vf vg P u14 fsp fsq Tx Ty fsx fsy la lb ka (min k lb.length) → Calls Try.prog 12 #[.pointer (some ⟨pg, 0, none⟩), .slice (cutA b capb k) mb (capb - k)] W fun e w2 => ∃ az cz fz v', e = .returned (.tuple #[.slice az fz.length cz, .bool (frames (lb.take (k + mb))).2.1]) ∧ FCells w2 az fz ∧ (az = none → cz = 0) ∧ fsq.length + fz.length ≤ 1000000 ∧ w2.ownsRow B 23 1 u14 fsq.length (fsq.map Fr.v) ∧ B ≤ w2.heap.size ∧ ∀ (w3 : World) (T' : Value), w3.ownsRow B 23 1 T' (fsq ++ fz).length ((fsq ++ fz).map Fr.v) → w2.grownBy w3 u14.ownBlock → (T'.ownBlock = u14.ownBlock ∨ ∀ y, T'.ownBlock = some y → w2.heap.size ≤ y) → ApS w w3 B pf pg vf v' P T' fsp (fsq ++ fz) Tx Ty fsx fsy la lb ka (k + mb)) := by
            intro W vf P fsp ka h
            have e1 : min k lb.length = k := by omega
            rw [e1] at h
            refine (h.swap.in1 HIB.out HB.out hmb1.2.1 (by omega)).mono ?_
            rintro e w2 ⟨az, cz, fz, v', rfl, h3, h4, h8, h1, h5, hnx⟩
            exact ⟨az, cz, fz, v', rfl, h3, h4, h8, h1, h5, fun w3 T' q1 q2 q3 => (hnx w3 T' q1 q2 q3).swap⟩
          have ksb : ∀ y, (Instr.slice 23 (.slice b lb.length capb) (some (.int .i64 (k : Int))) (some (.int .i64 ((k : Int) + (mb : Int)))) none).run Try.prog y = .ok (.slice (cutA b capb k) mb (capb - k)) y := fun y => run_slice_mid y b lb.length capb k mb hmb1.2.1 HIB.out.le
          obtain rfl : mb = Lb := by have := HLb.out; omega
          clear hmb
          obtain ⟨Rb, HRb⟩ : ∃ R, Hid ((frames (lb.take (k + mb))).2.1 = R) := ⟨_, rfl⟩
          rw [HRb.out] at HFB
          have hbrI : (10000 : Int) < (size : Int) := by omega
          go_wp2_with (first
            | (go_at_call 12; have _t := HFA; refine Calls.mono HFA.out ?_; rintro e w2 ⟨az, cz, fz, v', rfl, h3, h4, h8, h1, h5, hnx⟩; have HZ : Hid (FCells w2 az fz ∧ (az = none → cz = 0) ∧ fsp.length + fz.length ≤ 1000000 ∧ w2.ownsRow B 23 1 u13 fsp.length (fsp.map Fr.v) ∧ B ≤ w2.heap.size) := ⟨h3, h4, h8, h1, h5⟩; have HNA : Hid (∀ (w3 : World) (T' : Value), w3.ownsRow B 23 1 T' (fsp ++ fz).length ((fsp ++ fz).map Fr.v) → w2.grownBy w3 u13.ownBlock → (T'.ownBlock = u13.ownBlock ∨ ∀ y, T'.ownBlock = some y → w2.heap.size ≤ y) → ApS w w3 B pf pg v' vg T' u14 (fsp ++ fz) fsq Tx Ty fsx fsy la lb (k + ma) (min k lb.length)) := hnx; clear h1 h3 h4 h5 h8 hnx HFA _t)
            | (at_builtin; have _t := HNA; refine wpList_append_frs (by rfl) _ _ rfl B _ fsp rfl HZ.out.2.2.2.1 HZ.out.2.2.2.2 az cz fz rfl HZ.out.1 HZ.out.2.1 (by have := HZ.out.2.2.1; omega) ?_; intro TA w3 h1 h2 h3; have HEA : Hid (ApS w w3 B pf pg v' vg TA u14 (fsp ++ fz) fsq Tx Ty fsx fsy la lb (k + ma) (min k lb.length)) := HNA.out w3 TA h1 h2 h3; clear h1 h2 h3 _t HNA HZ)
            | (go_at_call 12; have _u := HEA; refine (HFB.out w3 v' TA (fsp ++ fz) (k + ma) HEA.out).mono ?_; rintro e w4 ⟨ay, cy, fy, vB, rfl, h3, h4, h8, h1, h5, hnx⟩; have HY : Hid (FCells w4 ay fy ∧ (ay = none → cy = 0) ∧ fsq.length + fy.length ≤ 1000000 ∧ w4.ownsRow B 23 1 u14 fsq.length (fsq.map Fr.v) ∧ B ≤ w4.heap.size) := ⟨h3, h4, h8, h1, h5⟩; have HNB : Hid (∀ (w3 : World) (T' : Value), w3.ownsRow B 23 1 T' (fsq ++ fy).length ((fsq ++ fy).map Fr.v) → w4.grownBy w3 u14.ownBlock → (T'.ownBlock = u14.ownBlock ∨ ∀ y, T'.ownBlock = some y → w4.heap.size ≤ y) → ApS w w3 B pf pg v' vB TA T' (fsp ++ fz) (fsq ++ fy) Tx Ty fsx fsy la lb (k + ma) (k + mb)) := hnx; clear h1 h3 h4 h5 h8 hnx HFB _u)
            | (at_builtin; have _t := HNB; refine wpList_append_frs (by rfl) _ _ rfl B _ fsq rfl HY.out.2.2.2.1 HY.out.2.2.2.2 ay cy fy rfl HY.out.1 HY.out.2.1 (by have := HY.out.2.2.1; omega) ?_; intro TB w5 h1 h2 h3; have HEB : Hid (ApS w w5 B pf pg v' vB TA TB (fsp ++ fz) (fsq ++ fy) Tx Ty fsx fsy la lb (k + ma) (k + mb)) := HNB.out w5 TB h1 h2 h3; clear h1 h2 h3 _t HNB HY))
          have HKA : Hid (k + ma = la.length) := by show _ = _; have := HMA.out; omega
          have HKB : Hid (k + mb = lb.length) := by show _ = _; have := HMB.out; omega
          have HUA : Hid (Ra = oka) := by show _ = _; rw [← HRa.out, HKA.out, List.take_length, HOA.out]
          have HUB : Hid (Rb = okb) := by show _ = _; rw [← HRb.out, HKB.out, List.take_length, HOB.out]
          have HS1 : Hid (Calls Try.prog 14 #[TA, Tx] w5 fun e w' => e = .returned (.bool true) ∧ ∃ n, w' = w5.drewN n) := ap_same HEB.out HKA.out HXA.out
          have HS2 : Hid (∀ n, Calls Try.prog 14 #[TB, Ty] (w5.drewN n) fun e w' => e = .returned (.bool true) ∧ ∃ m, w' = w5.drewN m) := fun n => (ap_same (HEB.out.drewN n).other HKB.out HXB.out).mono (by rintro e w' ⟨rfl, y, rfl⟩; exact ⟨rfl, n + y, World.drewN_drewN _ _ _⟩)
          have HBE : Hid (∀ n w9, Below (w5.drewN n).heap.size (w5.drewN n) w9 → Below B w w9) := fun n w9 h => (below_drewN HEB.out.bel n).trans (h.mono HEB.out.hB)
          have hua := HUA.out
          have hub := HUB.out
          rw [hua, hub]
          clear hua hub
          have oo1 : (oka == oka) = true := by simp
          have oo2 : (okb == okb) = true := by simp
          go_wp2_with (first
            | (go_at_call 14; have _t := HS1; refine Calls.mono HS1.out ?_; rintro e w7 ⟨rfl, n7, hw7⟩; subst w7; clear _t HS1)
            | (go_at_call 14; refine (HS2.out _).mono ?_; rintro e w8 ⟨rfl, n8, hw8⟩; subst w8)
            | (go_at_call 10; refine (HA.out _).mono ?_; rintro e w9 ⟨rfl, hb9⟩))
          go_ret
          exact ⟨rfl, HBE.out _ _ hb9⟩
        · have tk : True := trivial
          have hBI : (k : Int) < (lb.length : Int) := by omega
          have hAI : (k : Int) < (la.length : Int) := by omega
          obtain ⟨La, HLa⟩ : ∃ La, Hid (la.length - k = La) := ⟨_, rfl⟩
          obtain ⟨ma, hma⟩ : ∃ m, m = min size (la.length - k) := ⟨_, rfl⟩
          have hmina : (if La < size then (La : Int) else (size : Int)) = (ma : Int) := by have := HLa.out; split <;> omega
          have hlka : (la.length : Int) - (k : Int) = (La : Int) := by have := HLa.out; omega
          have hma1 : 1 ≤ ma ∧ k + ma ≤ la.length ∧ ma ≤ 3000 := by omega
          have HMA : Hid (k + ma = min (k + size) la.length) := by show _ = _; omega
          have HFA : Hid (Calls Try.prog 12 #[.pointer (some ⟨pf, 0, none⟩), .slice (cutA a capa k) ma (capa - k)] wr fun e w2 => ∃ az cz fz v', e = .returned (.tuple #[.slice az fz.length cz, .bool (frames (la.take (k + ma))).2.1]) ∧ FCells w2 az fz ∧ (az = none → cz = 0) ∧ fsp.length + fz.length ≤ 1000000 ∧ w2.ownsRow B 23 1 u13 fsp.length (fsp.map Fr.v) ∧ B ≤ w2.heap.size ∧ ∀ (w3 : World) (T' : Value), w3.ownsRow B 23 1 T' (fsp ++ fz).length ((fsp ++ fz).map Fr.v) → w2.grownBy w3 u13.ownBlock → (T'.ownBlock = u13.ownBlock ∨ ∀ y, T'.ownBlock = some y → w2.heap.size ≤ y) → ApS w w3 B pf pg v' vg T' u14 (fsp ++ fz) fsq Tx Ty fsx fsy la lb (k + ma) (min k lb.length)) := by
            have e1 : min k la.length = k := by omega
            have h := HAP.out
            rw [e1] at h
            exact h.in1 HIA.out HB.out hma1.2.1 (by omega)
          have ksa : ∀ y, (Instr.slice 23 (.slice a la.length capa) (some (.int .i64 (k : Int))) (some (.int .i64 ((k : Int) + (ma : Int)))) none).run Try.prog y = .ok (.slice (cutA a capa k) ma (capa - k)) y := fun y => run_slice_mid y a la.length capa k ma hma1.2.1 HIA.out.le
          clear hma
          obtain ⟨Ra, HRa⟩ : ∃ R, Hid ((frames (la.take (k + ma))).2.1 = R) := ⟨_, rfl⟩
          rw [HRa.out] at HFA
          obtain ⟨Lb, HLb⟩ : ∃ La, Hid (lb.length - k = La) := ⟨_, rfl⟩
          obtain ⟨mb, hmb⟩ : ∃ m, m = min size (lb.length - k) := ⟨_, rfl⟩
          have hminb : (if Lb < size then (Lb : Int) else (size : Int)) = (mb : Int) := by have := HLb.out; split <;> omega
          have hlkb : (lb.length : Int) - (k : Int) = (Lb : Int) := by have := HLb.out; omega
          have hmb1 : 1 ≤ mb ∧ k + mb ≤ lb.length ∧ mb ≤ 3000 := by omega
          have HMB : Hid (k + mb = min (k + size) lb.length) := by show _ = _; omega
          have HFB : Hid (∀ (W : World) (vf P : Value) (fsp : List Fr) (ka : Nat), ApS w W B pf pg vf vg P u14 fsp fsq Tx Ty fsx fsy la lb ka (min k lb.length) → Calls Try.prog 12 #[.pointer (some ⟨pg, 0, none⟩), .slice (cutA b capb k) mb (capb - k)] W fun e w2 => ∃ az cz fz v', e = .returned (.tuple #[.slice az fz.length cz, .bool (frames (lb.take (k + mb))).2.1]) ∧ FCells w2 az fz ∧ (az = none → cz = 0) ∧ fsq.length + fz.length ≤ 1000000 ∧ w2.ownsRow B 23 1 u14 fsq.length (fsq.map Fr.v) ∧ B ≤ w2.heap.size ∧ ∀ (w3 : World) (T' : Value), w3.ownsRow B 23 1 T' (fsq ++ fz).length ((fsq ++ fz).map Fr.v) → w2.grownBy w3 u14.ownBlock → (T'.ownBlock = u14.ownBlock ∨ ∀ y, T'.ownBlock = some y → w2.heap.size ≤ y) → ApS w w3 B pf pg vf v' P T' fsp (fsq ++ fz) Tx Ty fsx fsy la lb ka (k + mb)) := by
            intro W vf P fsp ka h
            have e1 : min k lb.length = k := by omega
            rw [e1] at h
            refine (h.swap.in1 HIB.out HB.out hmb1.2.1 (by omega)).mono ?_
            rintro e w2 ⟨az, cz, fz, v', rfl, h3, h4, h8, h1, h5, hnx⟩
            exact ⟨az, cz, fz, v', rfl, h3, h4, h8, h1, h5, fun w3 T' q1 q2 q3 => (hnx w3 T' q1 q2 q3).swap⟩
          have ksb : ∀ y, (Instr.slice 23 (.slice b lb.length capb) (some (.int .i64 (k : Int))) (some (.int .i64 ((k : Int) + (mb : Int)))) none).run Try.prog y = .ok (.slice (cutA b capb k) mb (capb - k)) y := fun y => run_slice_mid y b lb.length capb k mb hmb1.2.1 HIB.out.le
          clear hmb
          obtain ⟨Rb, HRb⟩ : ∃ R, Hid ((frames (lb.take (k + mb))).2.1 = R) := ⟨_, rfl⟩
          rw [HRb.out] at HFB
          have hbrI : ¬ (10000 : Int) < (size : Int) := by omega
          go_wp2_with (first
            | (go_at_call 12; have _t := HFA; refine Calls.mono HFA.out ?_; rintro e w2 ⟨az, cz, fz, v', rfl, h3, h4, h8, h1, h5, hnx⟩; have HZ : Hid (FCells w2 az fz ∧ (az = none → cz = 0) ∧ fsp.length + fz.length ≤ 1000000 ∧ w2.ownsRow B 23 1 u13 fsp.length (fsp.map Fr.v) ∧ B ≤ w2.heap.size) := ⟨h3, h4, h8, h1, h5⟩; have HNA : Hid (∀ (w3 : World) (T' : Value), w3.ownsRow B 23 1 T' (fsp ++ fz).length ((fsp ++ fz).map Fr.v) → w2.grownBy w3 u13.ownBlock → (T'.ownBlock = u13.ownBlock ∨ ∀ y, T'.ownBlock = some y → w2.heap.size ≤ y) → ApS w w3 B pf pg v' vg T' u14 (fsp ++ fz) fsq Tx Ty fsx fsy la lb (k + ma) (min k lb.length)) := hnx; clear h1 h3 h4 h5 h8 hnx HFA _t)
            | (at_builtin; have _t := HNA; refine wpList_append_frs (by rfl) _ _ rfl B _ fsp rfl HZ.out.2.2.2.1 HZ.out.2.2.2.2 az cz fz rfl HZ.out.1 HZ.out.2.1 (by have := HZ.out.2.2.1; omega) ?_; intro TA w3 h1 h2 h3; have HEA : Hid (ApS w w3 B pf pg v' vg TA u14 (fsp ++ fz) fsq Tx Ty fsx fsy la lb (k + ma) (min k lb.length)) := HNA.out w3 TA h1 h2 h3; clear h1 h2 h3 _t HNA HZ)
            | (go_at_call 12; have _u := HEA; refine (HFB.out w3 v' TA (fsp ++ fz) (k + ma) HEA.out).mono ?_; rintro e w4 ⟨ay, cy, fy, vB, rfl, h3, h4, h8, h1, h5, hnx⟩; have HY : Hid (FCells w4 ay fy ∧ (ay = none → cy = 0) ∧ fsq.length + fy.length ≤ 1000000 ∧ w4.ownsRow B 23 1 u14 fsq.length (fsq.map Fr.v) ∧ B ≤ w4.heap.size) := ⟨h3, h4, h8, h1, h5⟩; have HNB : Hid (∀ (w3 : World) (T' : Value), w3.ownsRow B 23 1 T' (fsq ++ fy).length ((fsq ++ fy).map Fr.v) → w4.grownBy w3 u14.ownBlock → (T'.ownBlock = u14.ownBlock ∨ ∀ y, T'.ownBlock = some y → w4.heap.size ≤ y) → ApS w w3 B pf pg v' vB TA T' (fsp ++ fz) (fsq ++ fy) Tx Ty fsx fsy la lb (k + ma) (k + mb)) := hnx; clear h1 h3 h4 h5 h8 hnx HFB _u)
            | (at_builtin; have _t := HNB; refine wpList_append_frs (by rfl) _ _ rfl B _ fsq rfl HY.out.2.2.2.1 HY.out.2.2.2.2 ay cy fy rfl HY.out.1 HY.out.2.1 (by have := HY.out.2.2.1; omega) ?_; intro TB w5 h1 h2 h3; have HEB : Hid (ApS w w5 B pf pg v' vB TA TB (fsp ++ fz) (fsq ++ fy) Tx Ty fsx fsy la lb (k + ma) (k + mb)) := HNB.out w5 TB h1 h2 h3; clear h1 h2 h3 _t HNB HY))
          have eA : min (k + size) la.length = k + ma := by exact HMA.out.symm
          have eB : min (k + size) lb.length = k + mb := by exact HMB.out.symm
          exact ⟨⟨k + size, v', vB, fsp ++ fz, fsq ++ fy, by omega, by go_num, by rw [eA, HRa.out], by rw [eB, HRb.out], by rw [eA, eB]; exact HEB.out⟩, by simp [intOf]; omega⟩
      · by_cases hbr : 10000 < size
        · have tk : True := trivial
          have hBI : ¬ (k : Int) < (lb.length : Int) := by omega
          have hAI : (k : Int) < (la.length : Int) := by omega
          obtain ⟨La, HLa⟩ : ∃ La, Hid (la.length - k = La) := ⟨_, rfl⟩
          obtain ⟨ma, hma⟩ : ∃ m, m = min size (la.length - k) := ⟨_, rfl⟩
          have hmina : (if La < size then (La : Int) else (size : Int)) = (ma : Int) := by have := HLa.out; split <;> omega
          have hlka : (la.length : Int) - (k : Int) = (La : Int) := by have := HLa.out; omega
          have hma1 : 1 ≤ ma ∧ k + ma ≤ la.length ∧ ma ≤ 3000 := by omega
          have HMA : Hid (k + ma = min (k + size) la.length) := by show _ = _; omega
          have HFA : Hid (Calls Try.prog 12 #[.pointer (some ⟨pf, 0, none⟩), .slice (cutA a capa k) ma (capa - k)] wr fun e w2 => ∃ az cz fz v', e = .returned (.tuple #[.slice az fz.length cz, .bool (frames (la.take (k + ma))).2.1]) ∧ FCells w2 az fz ∧ (az = none → cz = 0) ∧ fsp.length + fz.length ≤ 1000000 ∧ w2.ownsRow B 23 1 u13 fsp.length (fsp.map Fr.v) ∧ B ≤ w2.heap.size ∧ ∀ (w3 : World) (T' : Value), w3.ownsRow B 23 1 T' (fsp ++ fz).length ((fsp ++ fz).map Fr.v) → w2.grownBy w3 u13.ownBlock → (T'.ownBlock = u13.ownBlock ∨ ∀ y, T'.ownBlock = some y → w2.heap.size ≤ y) → ApS w w3 B pf pg v' vg T' u14 (fsp ++ fz) fsq Tx Ty fsx fsy la lb (k + ma) (min k lb.length)) := by
            have e1 : min k la.length = k := by omega
            have h := HAP.out
            rw [e1] at h
            exact h.in1 HIA.out HB.out hma1.2.1 (by omega)
          have ksa : ∀ y, (Instr.slice 23 (.slice a la.length capa) (some (.int .i64 (k : Int))) (some (.int .i64 ((k : Int) + (ma : Int)))) none).run Try.prog y = .ok (.slice (cutA a capa k) ma (capa - k)) y := fun y => run_slice_mid y a la.length capa k ma hma1.2.1 HIA.out.le
          obtain rfl : ma = La := by have := HLa.out; omega
          clear hma
          obtain ⟨Ra, HRa⟩ : ∃ R, Hid ((frames (la.take (k + ma))).2.1 = R) := ⟨_, rfl⟩
          rw [HRa.out] at HFA
          have hbrI : (10000 : Int) < (size : Int) := by omega
          go_wp2_with (first
            | (go_at_call 12; have _t := HFA; refine Calls.mono HFA.out ?_; rintro e w2 ⟨az, cz, fz, v', rfl, h3, h4, h8, h1, h5, hnx⟩; have HZ : Hid (FCells w2 az fz ∧ (az = none → cz = 0) ∧ fsp.length + fz.length ≤ 1000000 ∧ w2.ownsRow B 23 1 u13 fsp.length (fsp.map Fr.v) ∧ B ≤ w2.heap.size) := ⟨h3, h4, h8, h1, h5⟩; have HNA : Hid (∀ (w3 : World) (T' : Value), w3.ownsRow B 23 1 T' (fsp ++ fz).length ((fsp ++ fz).map Fr.v) → w2.grownBy w3 u13.ownBlock → (T'.ownBlock = u13.ownBlock ∨ ∀ y, T'.ownBlock = some y → w2.heap.size ≤ y) → ApS w w3 B pf pg v' vg T' u14 (fsp ++ fz) fsq Tx Ty fsx fsy la lb (k + ma) (min k lb.length)) := hnx; clear h1 h3 h4 h5 h8 hnx HFA _t)
            | (at_builtin; have _t := HNA; refine wpList_append_frs (by rfl) _ _ rfl B _ fsp rfl HZ.out.2.2.2.1 HZ.out.2.2.2.2 az cz fz rfl HZ.out.1 HZ.out.2.1 (by have := HZ.out.2.2.1; omega) ?_; intro TA w3 h1 h2 h3; have HEA : Hid (ApS w w3 B pf pg v' vg TA u14 (fsp ++ fz) fsq Tx Ty fsx fsy la lb (k + ma) (min k lb.length)) := HNA.out w3 TA h1 h2 h3; clear h1 h2 h3 _t HNA HZ))
          have HKA : Hid (k + ma = la.length) := by show _ = _; have := HMA.out; omega
          have HKB : Hid (min k lb.length = lb.length) := by show _ = _; omega
          have HUA : Hid (Ra = oka) := by show _ = _; rw [← HRa.out, HKA.out, List.take_length, HOA.out]
          have HUB : Hid ((frames (lb.take (min k lb.length))).2.1 = okb) := by show _ = _; rw [HKB.out, List.take_length, HOB.out]
          have HS1 : Hid (Calls Try.prog 14 #[TA, Tx] w3 fun e w' => e = .returned (.bool true) ∧ ∃ n, w' = w3.drewN n) := ap_same HEA.out HKA.out HXA.out
          have HS2 : Hid (∀ n, Calls Try.prog 14 #[u14, Ty] (w3.drewN n) fun e w' => e = .returned (.bool true) ∧ ∃ m, w' = w3.drewN m) := fun n => (ap_same (HEA.out.drewN n).other HKB.out HXB.out).mono (by rintro e w' ⟨rfl, y, rfl⟩; exact ⟨rfl, n + y, World.drewN_drewN _ _ _⟩)
          have HBE : Hid (∀ n w9, Below (w3.drewN n).heap.size (w3.drewN n) w9 → Below B w w9) := fun n w9 h => (below_drewN HEA.out.bel n).trans (h.mono HEA.out.hB)
          have hua := HUA.out
          have hub := HUB.out
          rw [hua, hub]
          clear hua hub
          have oo1 : (oka == oka) = true := by simp
          have oo2 : (okb == okb) = true := by simp
          go_wp2_with (first
            | (go_at_call 14; have _t := HS1; refine Calls.mono HS1.out ?_; rintro e w7 ⟨rfl, n7, hw7⟩; subst w7; clear _t HS1)
            | (go_at_call 14; refine (HS2.out _).mono ?_; rintro e w8 ⟨rfl, n8, hw8⟩; subst w8)
            | (go_at_call 10; refine (HA.out _).mono ?_; rintro e w9 ⟨rfl, hb9⟩))
          go_ret
          exact ⟨rfl, HBE.out _ _ hb9⟩
        · have tk : True := trivial
          have hBI : ¬ (k : Int) < (lb.length : Int) := by omega
          have hAI : (k : Int) < (la.length : Int) := by omega
          obtain ⟨La, HLa⟩ : ∃ La, Hid (la.length - k = La) := ⟨_, rfl⟩
          obtain ⟨ma, hma⟩ : ∃ m, m = min size (la.length - k) := ⟨_, rfl⟩
          have hmina : (if La < size then (La : Int) else (size : Int)) = (ma : Int) := by have := HLa.out; split <;> omega
          have hlka : (la.length : Int) - (k : Int) = (La : Int) := by have := HLa.out; omega
          have hma1 : 1 ≤ ma ∧ k + ma ≤ la.length ∧ ma ≤ 3000 := by omega
          have HMA : Hid (k + ma = min (k + size) la.length) := by show _ = _; omega
          have HFA : Hid (Calls Try.prog 12 #[.pointer (some ⟨pf, 0, none⟩), .slice (cutA a capa k) ma (capa - k)] wr fun e w2 => ∃ az cz fz v', e = .returned (.tuple #[.slice az fz.length cz, .bool (frames (la.take (k + ma))).2.1]) ∧ FCells w2 az fz ∧ (az = none → cz = 0) ∧ fsp.length + fz.length ≤ 1000000 ∧ w2.ownsRow B 23 1 u13 fsp.length (fsp.map Fr.v) ∧ B ≤ w2.heap.size ∧ ∀ (w3 : World) (T' : Value), w3.ownsRow B 23 1 T' (fsp ++ fz).length ((fsp ++ fz).map Fr.v) → w2.grownBy w3 u13.ownBlock → (T'.ownBlock = u13.ownBlock ∨ ∀ y, T'.ownBlock = some y → w2.heap.size ≤ y) → ApS w w3 B pf pg v' vg T' u14 (fsp ++ fz) fsq Tx Ty fsx fsy la lb (k + ma) (min k lb.length)) := by
            have e1 : min k la.length = k := by omega
            have h := HAP.out
            rw [e1] at h
            exact h.in1 HIA.out HB.out hma1.2.1 (by omega)
          have ksa : ∀ y, (Instr.slice 23 (.slice a la.length capa) (some (.int .i64 (k : Int))) (some (.int .i64 ((k : Int) + (ma : Int)))) none).run Try.prog y = .ok (.slice (cutA a capa k) ma (capa - k)) y := fun y => run_slice_mid y a la.length capa k ma hma1.2.1 HIA.out.le
          clear hma
          obtain ⟨Ra, HRa⟩ : ∃ R, Hid ((frames (la.take (k + ma))).2.1 = R) := ⟨_, rfl⟩
          rw [HRa.out] at HFA
          have hbrI : ¬ (10000 : Int) < (size : Int) := by omega
          go_wp2_with (first
            | (go_at_call 12; have _t := HFA; refine Calls.mono HFA.out ?_; rintro e w2 ⟨az, cz, fz, v', rfl, h3, h4, h8, h1, h5, hnx⟩; have HZ : Hid (FCells w2 az fz ∧ (az = none → cz = 0) ∧ fsp.length + fz.length ≤ 1000000 ∧ w2.ownsRow B 23 1 u13 fsp.length (fsp.map Fr.v) ∧ B ≤ w2.heap.size) := ⟨h3, h4, h8, h1, h5⟩; have HNA : Hid (∀ (w3 : World) (T' : Value), w3.ownsRow B 23 1 T' (fsp ++ fz).length ((fsp ++ fz).map Fr.v) → w2.grownBy w3 u13.ownBlock → (T'.ownBlock = u13.ownBlock ∨ ∀ y, T'.ownBlock = some y → w2.heap.size ≤ y) → ApS w w3 B pf pg v' vg T' u14 (fsp ++ fz) fsq Tx Ty fsx fsy la lb (k + ma) (min k lb.length)) := hnx; clear h1 h3 h4 h5 h8 hnx HFA _t)
            | (at_builtin; have _t := HNA; refine wpList_append_frs (by rfl) _ _ rfl B _ fsp rfl HZ.out.2.2.2.1 HZ.out.2.2.2.2 az cz fz rfl HZ.out.1 HZ.out.2.1 (by have := HZ.out.2.2.1; omega) ?_; intro TA w3 h1 h2 h3; have HEA : Hid (ApS w w3 B pf pg v' vg TA u14 (fsp ++ fz) fsq Tx Ty fsx fsy la lb (k + ma) (min k lb.length)) := HNA.out w3 TA h1 h2 h3; clear h1 h2 h3 _t HNA HZ))
          have eA : min (k + size) la.length = k + ma := by exact HMA.out.symm
          have eB : min (k + size) lb.length = min k lb.length := by omega
          exact ⟨⟨k + size, v', vg, fsp ++ fz, fsq, by omega, by go_num, by rw [eA, HRa.out], by rw [eB], by rw [eA, eB]; exact HEA.out⟩, by simp [intOf]; omega⟩
    · by_cases hBb : k < lb.length
      · by_cases hbr : 10000 < size
        · have tk : True := trivial
          have hAI : ¬ (k : Int) < (la.length : Int) := by omega
          have hAd : decide ((k : Int) < (la.length : Int)) = false := decide_eq_false hAI
          have hBI : (k : Int) < (lb.length : Int) := by omega
          obtain ⟨Lb, HLb⟩ : ∃ La, Hid (lb.length - k = La) := ⟨_, rfl⟩
          obtain ⟨mb, hmb⟩ : ∃ m, m = min size (lb.length - k) := ⟨_, rfl⟩
          have hminb : (if Lb < size then (Lb : Int) else (size : Int)) = (mb : Int) := by have := HLb.out; split <;> omega
          have hlkb : (lb.length : Int) - (k : Int) = (Lb : Int) := by have := HLb.out; omega
          have hmb1 : 1 ≤ mb ∧ k + mb ≤ lb.length ∧ mb ≤ 3000 := by omega
          have HMB : Hid (k + mb = min (k + size) lb.length) := by show _ = _; omega
          have HFB : Hid (∀ (W : World) (vf P : Value) (fsp : List Fr) (ka : Nat), ApS w W B pf pg vf vg P u14 fsp fsq Tx Ty fsx fsy la lb ka (min k lb.length) → Calls Try.prog 12 #[.pointer (some ⟨pg, 0, none⟩), .slice (cutA b capb k) mb (capb - k)] W fun e w2 => ∃ az cz fz v', e = .returned (.tuple #[.slice az fz.length cz, .bool (frames (lb.take (k + mb))).2.1]) ∧ FCells w2 az fz ∧ (az = none → cz = 0) ∧ fsq.length + fz.length ≤ 1000000 ∧ w2.ownsRow B 23 1 u14 fsq.length (fsq.map Fr.v) ∧ B ≤ w2.heap.size ∧ ∀ (w3 : World) (T' : Value), w3.ownsRow B 23 1 T' (fsq ++ fz).length ((fsq ++ fz).map Fr.v) → w2.grownBy w3 u14.ownBlock → (T'.ownBlock = u14.ownBlock ∨ ∀ y, T'.ownBlock = some y → w2.heap.size ≤ y) → ApS w w3 B pf pg vf v' P T' fsp (fsq ++ fz) Tx Ty fsx fsy la lb ka (k + mb)) := by
            intro W vf P fsp ka h
            have e1 : min k lb.length = k := by omega
            rw [e1] at h
            refine (h.swap.in1 HIB.out HB.out hmb1.2.1 (by omega)).mono ?_
            rintro e w2 ⟨az, cz, fz, v', rfl, h3, h4, h8, h1, h5, hnx⟩
            exact ⟨az, cz, fz, v', rfl, h3, h4, h8, h1, h5, fun w3 T' q1 q2 q3 => (hnx w3 T' q1 q2 q3).swap⟩
          have ksb : ∀ y, (Instr.slice 23 (.slice b lb.length capb) (some (.int .i64 (k : Int))) (some (.int .i64 ((k : Int) + (mb : Int)))) none).run Try.prog y = .ok (.slice (cutA b capb k) mb (capb - k)) y := fun y => run_slice_mid y b lb.length capb k mb hmb1.2.1 HIB.out.le
          obtain rfl : mb = Lb := by have := HLb.out; omega
          clear hmb
          obtain ⟨Rb, HRb⟩ : ∃ R, Hid ((frames (lb.take (k + mb))).2.1 = R) := ⟨_, rfl⟩
          rw [HRb.out] at HFB
          have hbrI : (10000 : Int) < (size : Int) := by omega
          go_wp2_with (first
            | (go_at_call 12; have _u := HAP; refine (HFB.out wr vf u13 fsp (min k la.length) HAP.out).mono ?_; rintro e w4 ⟨ay, cy, fy, vB, rfl, h3, h4, h8, h1, h5, hnx⟩; have HY : Hid (FCells w4 ay fy ∧ (ay = none → cy = 0) ∧ fsq.length + fy.length ≤ 1000000 ∧ w4.ownsRow B 23 1 u14 fsq.length (fsq.map Fr.v) ∧ B ≤ w4.heap.size) := ⟨h3, h4, h8, h1, h5⟩; have HNB : Hid (∀ (w3 : World) (T' : Value), w3.ownsRow B 23 1 T' (fsq ++ fy).length ((fsq ++ fy).map Fr.v) → w4.grownBy w3 u14.ownBlock → (T'.ownBlock = u14.ownBlock ∨ ∀ y, T'.ownBlock = some y → w4.heap.size ≤ y) → ApS w w3 B pf pg vf vB u13 T' fsp (fsq ++ fy) Tx Ty fsx fsy la lb (min k la.length) (k + mb)) := hnx; clear h1 h3 h4 h5 h8 hnx HFB _u)
            | (at_builtin; have _t := HNB; refine wpList_append_frs (by rfl) _ _ rfl B _ fsq rfl HY.out.2.2.2.1 HY.out.2.2.2.2 ay cy fy rfl HY.out.1 HY.out.2.1 (by have := HY.out.2.2.1; omega) ?_; intro TB w5 h1 h2 h3; have HEB : Hid (ApS w w5 B pf pg vf vB u13 TB fsp (fsq ++ fy) Tx Ty fsx fsy la lb (min k la.length) (k + mb)) := HNB.out w5 TB h1 h2 h3; clear h1 h2 h3 _t HNB HY))
          have HKA : Hid (min k la.length = la.length) := by show _ = _; omega
          have HKB : Hid (k + mb = lb.length) := by show _ = _; have := HMB.out; omega
          have HUA : Hid ((frames (la.take (min k la.length))).2.1 = oka) := by show _ = _; rw [HKA.out, List.take_length, HOA.out]
          have HUB : Hid (Rb = okb) := by show _ = _; rw [← HRb.out, HKB.out, List.take_length, HOB.out]
          have HS1 : Hid (Calls Try.prog 14 #[u13, Tx] w5 fun e w' => e = .returned (.bool true) ∧ ∃ n, w' = w5.drewN n) := ap_same HEB.out HKA.out HXA.out
          have HS2 : Hid (∀ n, Calls Try.prog 14 #[TB, Ty] (w5.drewN n) fun e w' => e = .returned (.bool true) ∧ ∃ m, w' = w5.drewN m) := fun n => (ap_same (HEB.out.drewN n).other HKB.out HXB.out).mono (by rintro e w' ⟨rfl, y, rfl⟩; exact ⟨rfl, n + y, World.drewN_drewN _ _ _⟩)
          have HBE : Hid (∀ n w9, Below (w5.drewN n).heap.size (w5.drewN n) w9 → Below B w w9) := fun n w9 h => (below_drewN HEB.out.bel n).trans (h.mono HEB.out.hB)
          have hua := HUA.out
          have hub := HUB.out
          rw [hua, hub]
          clear hua hub
          have oo1 : (oka == oka) = true := by simp
          have oo2 : (okb == okb) = true := by simp
          go_wp2_with (first
            | (go_at_call 14; have _t := HS1; refine Calls.mono HS1.out ?_; rintro e w7 ⟨rfl, n7, hw7⟩; subst w7; clear _t HS1)
            | (go_at_call 14; refine (HS2.out _).mono ?_; rintro e w8 ⟨rfl, n8, hw8⟩; subst w8)
            | (go_at_call 10; refine (HA.out _).mono ?_; rintro e w9 ⟨rfl, hb9⟩))
          go_ret
          exact ⟨rfl, HBE.out _ _ hb9⟩
        · have tk : True := trivial
          have hAI : ¬ (k : Int) < (la.length : Int) := by omega
          have hAd : decide ((k : Int) < (la.length : Int)) = false := decide_eq_false hAI
          have hBI : (k : Int) < (lb.length : Int) := by omega
          obtain ⟨Lb, HLb⟩ : ∃ La, Hid (lb.length - k = La) := ⟨_, rfl⟩
          obtain ⟨mb, hmb⟩ : ∃ m, m = min size (lb.length - k) := ⟨_, rfl⟩
          have hminb : (if Lb < size then (Lb : Int) else (size : Int)) = (mb : Int) := by have := HLb.out; split <;> omega
          have hlkb : (lb.length : Int) - (k : Int) = (Lb : Int) := by have := HLb.out; omega
          have hmb1 : 1 ≤ mb ∧ k + mb ≤ lb.length ∧ mb ≤ 3000 := by omega
          have HMB : Hid (k + mb = min (k + size) lb.length) := by show _ = _; omega
          have HFB : Hid (∀ (W : World) (vf P : Value) (fsp : List Fr) (ka : Nat), ApS w W B pf pg vf vg P u14 fsp fsq Tx Ty fsx fsy la lb ka (min k lb.length) → Calls Try.prog 12 #[.pointer (some ⟨pg, 0, none⟩), .slice (cutA b capb k) mb (capb - k)] W fun e w2 => ∃ az cz fz v', e = .returned (.tuple #[.slice az fz.length cz, .bool (frames (lb.take (k + mb))).2.1]) ∧ FCells w2 az fz ∧ (az = none → cz = 0) ∧ fsq.length + fz.length ≤ 1000000 ∧ w2.ownsRow B 23 1 u14 fsq.length (fsq.map Fr.v) ∧ B ≤ w2.heap.size ∧ ∀ (w3 : World) (T' : Value), w3.ownsRow B 23 1 T' (fsq ++ fz).length ((fsq ++ fz).map Fr.v) → w2.grownBy w3 u14.ownBlock → (T'.ownBlock = u14.ownBlock ∨ ∀ y, T'.ownBlock = some y → w2.heap.size ≤ y) → ApS w w3 B pf pg vf v' P T' fsp (fsq ++ fz) Tx Ty fsx fsy la lb ka (k + mb)) := by
            intro W vf P fsp ka h
            have e1 : min k lb.length = k := by omega
            rw [e1] at h
            refine (h.swap.in1 HIB.out HB.out hmb1.2.1 (by omega)).mono ?_
            rintro e w2 ⟨az, cz, fz, v', rfl, h3, h4, h8, h1, h5, hnx⟩
            exact ⟨az, cz, fz, v', rfl, h3, h4, h8, h1, h5, fun w3 T' q1 q2 q3 => (hnx w3 T' q1 q2 q3).swap⟩
          have ksb : ∀ y, (Instr.slice 23 (.slice b lb.length capb) (some (.int .i64 (k : Int))) (some (.int .i64 ((k : Int) + (mb : Int)))) none).run Try.prog y = .ok (.slice (cutA b capb k) mb (capb - k)) y := fun y => run_slice_mid y b lb.length capb k mb hmb1.2.1 HIB.out.le
          clear hmb
          obtain ⟨Rb, HRb⟩ : ∃ R, Hid ((frames (lb.take (k + mb))).2.1 = R) := ⟨_, rfl⟩
          rw [HRb.out] at HFB
          have hbrI : ¬ (10000 : Int) < (size : Int) := by omega
          go_wp2_with (first
            | (go_at_call 12; have _u := HAP; refine (HFB.out wr vf u13 fsp (min k la.length) HAP.out).mono ?_; rintro e w4 ⟨ay, cy, fy, vB, rfl, h3, h4, h8, h1, h5, hnx⟩; have HY : Hid (FCells w4 ay fy ∧ (ay = none → cy = 0) ∧ fsq.length + fy.length ≤ 1000000 ∧ w4.ownsRow B 23 1 u14 fsq.length (fsq.map Fr.v) ∧ B ≤ w4.heap.size) := ⟨h3, h4, h8, h1, h5⟩; have HNB : Hid (∀ (w3 : World) (T' : Value), w3.ownsRow B 23 1 T' (fsq ++ fy).length ((fsq ++ fy).map Fr.v) → w4.grownBy w3 u14.ownBlock → (T'.ownBlock = u14.ownBlock ∨ ∀ y, T'.ownBlock = some y → w4.heap.size ≤ y) → ApS w w3 B pf pg vf vB u13 T' fsp (fsq ++ fy) Tx Ty fsx fsy la lb (min k la.length) (k + mb)) := hnx; clear h1 h3 h4 h5 h8 hnx HFB _u)
            | (at_builtin; have _t := HNB; refine wpList_append_frs (by rfl) _ _ rfl B _ fsq rfl HY.out.2.2.2.1 HY.out.2.2.2.2 ay cy fy rfl HY.out.1 HY.out.2.1 (by have := HY.out.2.2.1; omega) ?_; intro TB w5 h1 h2 h3; have HEB : Hid (ApS w w5 B pf pg vf vB u13 TB fsp (fsq ++ fy) Tx Ty fsx fsy la lb (min k la.length) (k + mb)) := HNB.out w5 TB h1 h2 h3; clear h1 h2 h3 _t HNB HY))
          have eA : min (k + size) la.length = min k la.length := by omega
          have eB : min (k + size) lb.length = k + mb := by exact HMB.out.symm
          exact ⟨⟨k + size, vf, vB, fsp, fsq ++ fy, by omega, by go_num, by rw [eA], by rw [eB, HRb.out], by rw [eA, eB]; exact HEB.out⟩, by simp [intOf]; omega⟩
      · have hAI : ¬ (k : Int) < (la.length : Int) := by omega
        have hBI : ¬ (k : Int) < (lb.length : Int) := by omega
        have hAd : decide ((k : Int) < (la.length : Int)) = false := decide_eq_false hAI
        have HKA : Hid (min k la.length = la.length) := by show _ = _; omega
        have HKB : Hid (min k lb.length = lb.length) := by show _ = _; omega
        have HUA : Hid ((frames (la.take (min k la.length))).2.1 = oka) := by show _ = _; rw [HKA.out, List.take_length, HOA.out]
        have HUB : Hid ((frames (lb.take (min k lb.length))).2.1 = okb) := by show _ = _; rw [HKB.out, List.take_length, HOB.out]
        have HS1 : Hid (Calls Try.prog 14 #[u13, Tx] wr fun e w' => e = .returned (.bool true) ∧ ∃ n, w' = wr.drewN n) := ap_same HAP.out HKA.out HXA.out
        have HS2 : Hid (∀ n, Calls Try.prog 14 #[u14, Ty] (wr.drewN n) fun e w' => e = .returned (.bool true) ∧ ∃ m, w' = wr.drewN m) := fun n => (ap_same (HAP.out.drewN n).other HKB.out HXB.out).mono (by rintro e w' ⟨rfl, y, rfl⟩; exact ⟨rfl, n + y, World.drewN_drewN _ _ _⟩)
        have HBE : Hid (∀ n w9, Below (wr.drewN n).heap.size (wr.drewN n) w9 → Below B w w9) := fun n w9 h => (below_drewN HAP.out.bel n).trans (h.mono HAP.out.hB)
        have hua := HUA.out
        have hub := HUB.out
        rw [hua, hub]
        clear hua hub
        have oo1 : (oka == oka) = true := by simp
        have oo2 : (okb == okb) = true := by simp
        go_wp2_with (first
          | (go_at_call 14; have _t := HS1; refine Calls.mono HS1.out ?_; rintro e w7 ⟨rfl, n7, hw7⟩; subst w7; clear _t HS1)
          | (go_at_call 14; refine (HS2.out _).mono ?_; rintro e w8 ⟨rfl, n8, hw8⟩; subst w8)
          | (go_at_call 10; refine (HA.out _).mono ?_; rintro e w9 ⟨rfl, hb9⟩))
        go_ret
        exact ⟨rfl, HBE.out _ _ hb9⟩
set_option maxRecDepth 100000 in
theorem apart_odd (a : Option Addr) (capa n : Nat) (b : Option Addr) (capb m : Nat) (size : Int) (w : World) (h : 3000 < n ∨ 3000 < m ∨ size < 1) (hn : n ≤ 140737488351232) (hm : m ≤ 140737488351232) :
    Calls Try.prog 8 #[.slice a n capa, .slice b m capb, .int .i64 size] w fun e w' => e = .returned (.bool true) ∧ Below w.heap.size w w' := by
  have HA : Hid _ := awake_any w
  by_cases h1 : 3000 < n
  · have hI : (3000 : Int) < (n : Int) := by omega
    go_enter Try.func8, Try.ntmps8
    go_wp2_with (go_at_call 10; refine Calls.mono HA.out ?_; rintro e w9 ⟨rfl, hb9⟩)
    go_ret
    exact ⟨rfl, hb9⟩
  · have hI : ¬ (3000 : Int) < (n : Int) := by omega
    by_cases h2 : 3000 < m
    · have hI2 : (3000 : Int) < (m : Int) := by omega
      go_enter Try.func8, Try.ntmps8
      go_wp2_with (go_at_call 10; refine Calls.mono HA.out ?_; rintro e w9 ⟨rfl, hb9⟩)
      go_ret
      exact ⟨rfl, hb9⟩
    · have hI2 : ¬ (3000 : Int) < (m : Int) := by omega
      have hs : size < 1 := by omega
      go_enter Try.func8, Try.ntmps8
      go_wp2_with (go_at_call 10; refine Calls.mono HA.out ?_; rintro e w9 ⟨rfl, hb9⟩)
      go_ret
      exact ⟨rfl, hb9⟩
theorem frameApart_walk (a0 : Option Addr) (cap0 : Nat) (l0 : List Nat) (a1 : Option Addr) (cap1 : Nat) (l1 : List Nat) (a2 : Int) (w : World) (w0 : Came w a0 cap0 l0) (w1 : Came w a1 cap1 l1) (w2 : (Lit.int .i64 a2).wf = true) :
    Calls Try.prog 8 #[.slice a0 l0.length cap0, .slice a1 l1.length cap1, .int .i64 a2] w fun e w' => e = .returned (.bool true) ∧ Below w.heap.size w w' := by
  have hb := bd64 w2
  have h1 := w0.2
  have h2 := w1.2
  by_cases h : 3000 < l0.length ∨ 3000 < l1.length ∨ a2 < 1
  · exact apart_odd a0 cap0 l0.length a1 cap1 l1.length a2 w h h1 h2
  · obtain ⟨n, rfl⟩ : ∃ n : Nat, a2 = (n : Int) := ⟨a2.toNat, by omega⟩
    exact apart_in a0 cap0 l0 a1 cap1 l1 n w w0.1 w1.1 (by omega) (by omega) (by omega) (by omega)
end Go.Proofs.Ythbomgjjdmogpaa
