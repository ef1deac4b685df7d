/- What comes in: rows of steps, opened; the bound of the second form. -/
import Derived.Test.YtnnljdnaipjoiaaAw
import Derived.JoinedCond
namespace Go.Proofs.Ytnnljdnaipjoiaa
set_option linter.unusedSimpArgs false
set_option linter.unusedVariables false
open Go.RowKit Go.ChangeShapes Go.WideShapes Go.ChangeAt
theorem bulk_one {H : Type} (d : DataW H) : 1 ≤ Rows.uptoBulk d := by
  cases d with
  | lit l => cases l <;> simp [Rows.uptoBulk]
  | nil => simp [Rows.uptoBulk]
  | ptr d => simp [Rows.uptoBulk]
  | slice elems spare => simp [Rows.uptoBulk]
  | agg parts => simp [Rows.uptoBulk]
  | iface t d => simp [Rows.uptoBulk]
  | map entries => simp [Rows.uptoBulk]
  | held h => simp [Rows.uptoBulk]
theorem bulk_part {H : Type} {d : DataW H} {l : List (DataW H)} (h : d ∈ l) : Rows.uptoBulk d ≤ Rows.uptoBulkAll l := by
  induction l with
  | nil => cases h
  | cons x r ih =>
    simp only [Rows.uptoBulkAll]
    cases List.mem_cons.1 h with
    | inl e => subst e; omega
    | inr e => have := ih e; omega
theorem bulk_len {H : Type} (l : List (DataW H)) : l.length ≤ Rows.uptoBulkAll l := by
  induction l with
  | nil => simp [Rows.uptoBulkAll]
  | cons x r ih => have := bulk_one x; simp only [Rows.uptoBulkAll, List.length_cons]; omega
theorem bulk_slice {H : Type} (elems spare : List (DataW H)) : elems.length ≤ Rows.uptoBulk (.slice elems spare) ∧ Rows.uptoBulkAll elems ≤ Rows.uptoBulk (.slice elems spare) := by
  have h1 := bulk_len elems
  simp only [Rows.uptoBulk]
  omega
theorem bulk_agg {H : Type} {d : DataW H} {parts : List (DataW H)} (h : d ∈ parts) : Rows.uptoBulk d ≤ Rows.uptoBulk (.agg parts) := by
  have := bulk_part h
  simp only [Rows.uptoBulk]
  omega
theorem bulk_str {H : Type} {s : ByteArray} {d : DataW H} (h : d = .lit (.string s.data.toList)) {n : Nat} (hb : Rows.uptoBulk d ≤ n) : s.size ≤ n := by
  subst h
  simp only [Rows.uptoBulk] at hb
  have e : s.data.toList.length = s.size := by rw [Array.length_toList]; rfl
  omega
def big : Nat := 1048576
def RcUp (r : Rc) : Prop := r.k.size ≤ big ∧ r.v.size ≤ big
/-- Records that came in. -/
structure RsUp (w : World) (a : Option Addr) (rs : List Rc) : Prop where
  row : RRow w a rs
  len : rs.length ≤ big
  each : ∀ i, i < rs.length → RcUp (rs.getD i rz)
set_option maxRecDepth 100000 in
theorem recs_up {H : Type} {enc : TypeId × Value → H} {W : World} {base fuel : Nat} {sp : Nat → Bool} {held : Bool} {a0 : Option Addr} {L cap0 : Nat} {x : DataW H × List MemPlace}
    (h : DataW.trod enc Try.prog W base sp held fuel 50 [.slice a0 L cap0] = some x) (hb : Rows.uptoBulk x.1 ≤ big) : ∃ rs : List Rc, L = rs.length ∧ RsUp W a0 rs := by
  rcases Go.Deep.open_slice Try.underlying50 h with ⟨hcs, _⟩ | ⟨ad, len, cap, m, n, D, Pl, hcs, _, hl, hm, hmm, hd, hx⟩
  · simp at hcs
    obtain ⟨rfl, rfl, rfl⟩ := hcs
    exact ⟨[], rfl, ⟨RRow.nil _ _, by simp, fun i hi => by simp at hi⟩⟩
  · simp at hcs
    obtain ⟨rfl, rfl, rfl⟩ := hcs
    have hlm : L ≤ m := by rw [hmm]; split <;> omega
    have hbs := bulk_slice ((List.range L).map D) ((List.range (m - L)).map fun i => D (L + i))
    have hLb : L ≤ big := by
      have := hbs.1
      rw [hd] at hb
      simp only [List.length_map, List.length_range] at this
      exact Nat.le_trans (Nat.le_trans this (by first | exact Nat.le_refl _ | simp [Rows.uptoBulk])) hb
    have hDb : ∀ i, i < L → Rows.uptoBulk (D i) ≤ big := fun i hi => by
      have h1 := bulk_part (List.mem_map.2 ⟨i, List.mem_range.2 hi, rfl⟩ : D i ∈ (List.range L).map D)
      rw [hd] at hb
      refine Nat.le_trans (Nat.le_trans h1 ?_) hb
      simp only [Rows.uptoBulk]
      omega
    have each : ∀ i, i < L → ∃ r : Rc, (∃ b off, some ad = some ⟨b, off, none⟩ ∧ W.cell? ⟨b, off + i * 6, none⟩ = some (.bool r.hk) ∧ W.cell? ⟨b, off + i * 6 + 1, none⟩ = some (.string r.k) ∧ W.cell? ⟨b, off + i * 6 + 2, none⟩ = some (.bool r.hv) ∧ W.cell? ⟨b, off + i * 6 + 3, none⟩ = some (.string r.v) ∧ W.cell? ⟨b, off + i * 6 + 4, none⟩ = some (.int .i64 r.t) ∧ W.cell? ⟨b, off + i * 6 + 5, none⟩ = some (.int .i64 r.o)) ∧ RcUp r := by
      intro i hi
      have hsp : ad.spot = none := by
        obtain ⟨cs0, h10, _⟩ := hx 0 (by omega)
        rw [cells48] at h10
        obtain ⟨_, hlen0, hcell0⟩ := World.cells?_some h10
        have e := hcell0 0 (by omega)
        rw [List.getElem?_eq_getElem (by omega)] at e
        simpa [Addr.add] using World.cell?_spot e
      obtain ⟨b, off, spot⟩ := ad
      simp only at hsp
      subst hsp
      obtain ⟨cs', h1, h2⟩ := hx i (by omega)
      rw [cells48] at h1
      obtain ⟨_, hlen, hcell⟩ := World.cells?_some h1
      obtain ⟨xs, k, hk, hxy, _, hxl, hf⟩ := DataW.trod_struct Try.underlying48 h2
      match xs, hxl, cs', hlen with
      | [y0, y1, y2, y3, y4, y5], _, [v0, v1, v2, v3, v4, v5], _ =>
        have g0 := hf 0 _ rfl
        have g1 := hf 1 _ rfl
        have g2 := hf 2 _ rfl
        have g3 := hf 3 _ rfl
        have g4 := hf 4 _ rfl
        have g5 := hf 5 _ rfl
        simp [cells3, cells4, cells9] at g0 g1 g2 g3 g4 g5
        have e0 := hcell 0 (by omega)
        have e1 := hcell 1 (by omega)
        have e2 := hcell 2 (by omega)
        have e3 := hcell 3 (by omega)
        have e4 := hcell 4 (by omega)
        have e5 := hcell 5 (by omega)
        obtain ⟨n0, q0, _⟩ := DataW.trod_bool Try.underlying4 g0
        obtain ⟨n1, q1, u1, w1⟩ := DataW.trod_string Try.underlying9 g1
        obtain ⟨n2, q2, _⟩ := DataW.trod_bool Try.underlying4 g2
        obtain ⟨n3, q3, u3, w3⟩ := DataW.trod_string Try.underlying9 g3
        have hDi : D i = .agg [y0.1, y1.1, y2.1, y3.1, y4.1, y5.1] := by have := congrArg Prod.fst hxy; simpa using this
        have hDm := hDb i hi
        rw [hDi] at hDm
        have b1 : n1.size ≤ big := bulk_str (congrArg Prod.fst u1) (Nat.le_trans (bulk_agg (by simp)) hDm)
        have b3 : n3.size ≤ big := bulk_str (congrArg Prod.fst u3) (Nat.le_trans (bulk_agg (by simp)) hDm)
        obtain ⟨n4, q4, _, w4⟩ := DataW.trod_int Try.underlying3 g4
        obtain ⟨n5, q5, _, w5⟩ := DataW.trod_int Try.underlying3 g5
        simp at q0 q1 q2 q3 q4 q5
        subst q0; subst q1; subst q2; subst q3; subst q4; subst q5
        rw [Addr.add_lit, Addr.add_lit] at e0 e1 e2 e3 e4 e5
        simp at e0 e1 e2 e3 e4 e5
        exact ⟨⟨n0, n1, n2, n3, n4, n5⟩, ⟨b, off, rfl, e0, e1, e2, e3, e4, e5⟩, b1, b3⟩
    obtain ⟨l, hll, hr⟩ := list_of rz _ L each
    exact ⟨l, hll.symm, ⟨fun i hi => by rw [hll] at hi; exact (hr i hi).1, by rw [hll]; exact hLb, fun i hi => (hr i (by omega)).2⟩⟩
/-- Batches that came in. -/
structure BsUp (w : World) (a : Option Addr) (ss : List Bs) : Prop where
  cells : BCells w a ss
  len : ss.length ≤ big
  each : ∀ i, i < ss.length → RsUp w (ss.getD i bsz).a (ss.getD i bsz).b.rs
set_option maxRecDepth 100000 in
theorem bats_up {H : Type} {enc : TypeId × Value → H} {W : World} {base fuel : Nat} {sp : Nat → Bool} {held : Bool} {a0 : Option Addr} {L cap0 : Nat} {x : DataW H × List MemPlace}
    (h : DataW.trod enc Try.prog W base sp held fuel 33 [.slice a0 L cap0] = some x) (hb : Rows.uptoBulk x.1 ≤ big) : ∃ ss : List Bs, L = ss.length ∧ BsUp W a0 ss := by
  rcases Go.Deep.open_slice Try.underlying33 h with ⟨hcs, _⟩ | ⟨ad, len, cap, m, n, D, Pl, hcs, _, hl, hm, hmm, hd, hx⟩
  · simp at hcs
    obtain ⟨rfl, rfl, rfl⟩ := hcs
    exact ⟨[], rfl, ⟨fun i hi => by simp at hi, by simp, fun i hi => by simp at hi⟩⟩
  · simp at hcs
    obtain ⟨rfl, rfl, rfl⟩ := hcs
    have hlm : L ≤ m := by rw [hmm]; split <;> omega
    have hbs := bulk_slice ((List.range L).map D) ((List.range (m - L)).map fun i => D (L + i))
    have hLb : L ≤ big := by
      have := hbs.1
      rw [hd] at hb
      simp only [List.length_map, List.length_range] at this
      exact Nat.le_trans (Nat.le_trans this (by first | exact Nat.le_refl _ | simp [Rows.uptoBulk])) hb
    have hDb : ∀ i, i < L → Rows.uptoBulk (D i) ≤ big := fun i hi => by
      have h1 := bulk_part (List.mem_map.2 ⟨i, List.mem_range.2 hi, rfl⟩ : D i ∈ (List.range L).map D)
      rw [hd] at hb
      refine Nat.le_trans (Nat.le_trans h1 ?_) hb
      simp only [Rows.uptoBulk]
      omega
    have each : ∀ i, i < L → ∃ s : Bs, (∃ b off, some ad = some ⟨b, off, none⟩ ∧ W.cell? ⟨b, off + i * 5, none⟩ = some (.int .i64 s.b.base) ∧ W.cell? ⟨b, off + i * 5 + 1, none⟩ = some (.int .i64 s.b.span) ∧ W.cell? ⟨b, off + i * 5 + 2, none⟩ = some (.int .i64 s.b.prod) ∧ W.cell? ⟨b, off + i * 5 + 3, none⟩ = some (.int .i64 s.b.seq) ∧ W.cell? ⟨b, off + i * 5 + 4, none⟩ = some (.slice s.a s.b.rs.length s.cap)) ∧ RsUp W s.a s.b.rs := by
      intro i hi
      have hsp : ad.spot = none := by
        obtain ⟨cs0, h10, _⟩ := hx 0 (by omega)
        rw [cells61] at h10
        obtain ⟨_, hlen0, hcell0⟩ := World.cells?_some h10
        have e := hcell0 0 (by omega)
        rw [List.getElem?_eq_getElem (by omega)] at e
        simpa [Addr.add] using World.cell?_spot e
      obtain ⟨b, off, spot⟩ := ad
      simp only at hsp
      subst hsp
      obtain ⟨cs', h1, h2⟩ := hx i (by omega)
      rw [cells61] at h1
      obtain ⟨_, hlen, hcell⟩ := World.cells?_some h1
      obtain ⟨xs, k, hk, hxy, _, hxl, hf⟩ := DataW.trod_struct Try.underlying61 h2
      match xs, hxl, cs', hlen with
      | [y0, y1, y2, y3, y4], _, [v0, v1, v2, v3, v4], _ =>
        have g0 := hf 0 _ rfl
        have g1 := hf 1 _ rfl
        have g2 := hf 2 _ rfl
        have g3 := hf 3 _ rfl
        have g4 := hf 4 _ rfl
        simp [cells3, cells50] at g0 g1 g2 g3 g4
        have e0 := hcell 0 (by omega)
        have e1 := hcell 1 (by omega)
        have e2 := hcell 2 (by omega)
        have e3 := hcell 3 (by omega)
        have e4 := hcell 4 (by omega)
        obtain ⟨n0, q0, _, w0⟩ := DataW.trod_int Try.underlying3 g0
        obtain ⟨n1, q1, _, w1⟩ := DataW.trod_int Try.underlying3 g1
        obtain ⟨n2, q2, _, w2⟩ := DataW.trod_int Try.underlying3 g2
        obtain ⟨n3, q3, _, w3⟩ := DataW.trod_int Try.underlying3 g3
        simp at q0 q1 q2 q3
        subst q0; subst q1; subst q2; subst q3
        obtain ⟨a1, l1, k1, rfl⟩ : ∃ a1 l1 c1, v4 = .slice a1 l1 c1 := by
          rcases Go.Deep.open_slice Try.underlying50 g4 with ⟨hcs, _⟩ | ⟨ad, len, cap, m, n, D, Pl, hcs, _⟩
          · simp at hcs; exact ⟨_, _, _, hcs⟩
          · simp at hcs; exact ⟨_, _, _, hcs⟩
        have hDi : D i = .agg [y0.1, y1.1, y2.1, y3.1, y4.1] := by have := congrArg Prod.fst hxy; simpa using this
        have hDm := hDb i hi
        rw [hDi] at hDm
        obtain ⟨rs, rfl, hr⟩ := recs_up g4 (Nat.le_trans (bulk_agg (by simp)) hDm)
        rw [Addr.add_lit, Addr.add_lit] at e0 e1 e2 e3 e4
        simp at e0 e1 e2 e3 e4
        exact ⟨⟨⟨n0, n1, n2, n3, rs⟩, a1, k1⟩, ⟨b, off, rfl, e0, e1, e2, e3, e4⟩, hr⟩
    obtain ⟨l, hll, hr⟩ := list_of bsz _ L each
    exact ⟨l, hll.symm, ⟨fun i hi => by rw [hll] at hi; exact (hr i hi).1, by rw [hll]; exact hLb, fun i hi => (hr i (by omega)).2⟩⟩
/-- A step, and where its batches lie. -/
structure Sp where
  tp : ByteArray
  pt : Int
  st : Int
  nx : Int
  fr : Int
  ss : List Bs
  a : Option Addr
  cap : Nat
def spz : Sp := ⟨⟨#[]⟩, 0, 0, 0, 0, [], none, 0⟩
def Sp.cells (s : Sp) : Array Value := #[.string s.tp, .int .i64 s.pt, .int .i64 s.st, .int .i64 s.nx, .int .i64 s.fr, .slice s.a s.ss.length s.cap]
def SCells (w : World) (a : Option Addr) (l : List Sp) : Prop :=
  ∀ i, i < l.length → ∃ g off, a = some ⟨g, off, none⟩ ∧ w.cell? ⟨g, off + i * 6, none⟩ = some (.string (l.getD i spz).tp) ∧ w.cell? ⟨g, off + i * 6 + 1, none⟩ = some (.int .i64 (l.getD i spz).pt) ∧ w.cell? ⟨g, off + i * 6 + 2, none⟩ = some (.int .i64 (l.getD i spz).st) ∧ w.cell? ⟨g, off + i * 6 + 3, none⟩ = some (.int .i64 (l.getD i spz).nx) ∧ w.cell? ⟨g, off + i * 6 + 4, none⟩ = some (.int .i64 (l.getD i spz).fr) ∧ w.cell? ⟨g, off + i * 6 + 5, none⟩ = some (.slice (l.getD i spz).a (l.getD i spz).ss.length (l.getD i spz).cap)
structure SpUp (w : World) (s : Sp) : Prop where
  t : s.tp.size ≤ big
  b : BsUp w s.a s.ss
structure SsUp (w : World) (a : Option Addr) (l : List Sp) : Prop where
  cells : SCells w a l
  len : l.length ≤ big
  each : ∀ i, i < l.length → SpUp w (l.getD i spz)
theorem cells35 : Try.prog.cellsOf 35 = 6 := by kernel_rfl
theorem cells33 : Try.prog.cellsOf 33 = 1 := by kernel_rfl
set_option maxRecDepth 100000 in
theorem steps_up {H : Type} {enc : TypeId × Value → H} {W : World} {base fuel : Nat} {sp : Nat → Bool} {held : Bool} {a0 : Option Addr} {L cap0 : Nat} {x : DataW H × List MemPlace}
    (h : DataW.trod enc Try.prog W base sp held fuel 22 [.slice a0 L cap0] = some x) (hb : Rows.uptoBulk x.1 ≤ big) : ∃ l : List Sp, L = l.length ∧ SsUp W a0 l ∧ L ≤ cap0 ∧ cap0 ≤ maxLen ∧ (a0 = none → cap0 = 0) := by
  rcases Go.Deep.open_slice Try.underlying22 h with ⟨hcs, _⟩ | ⟨ad, len, cap, m, n, D, Pl, hcs, _, hl, hm, hmm, hd, hx⟩
  · simp at hcs
    obtain ⟨rfl, rfl, rfl⟩ := hcs
    exact ⟨[], rfl, ⟨fun i hi => by simp at hi, by simp, fun i hi => by simp at hi⟩, Nat.le_refl _, by unfold maxLen; omega, fun _ => rfl⟩
  · simp at hcs
    obtain ⟨rfl, rfl, rfl⟩ := hcs
    have hlm : L ≤ m := by rw [hmm]; split <;> omega
    have hbs := bulk_slice ((List.range L).map D) ((List.range (m - L)).map fun i => D (L + i))
    have hLb : L ≤ big := by
      have := hbs.1
      rw [hd] at hb
      simp only [List.length_map, List.length_range] at this
      exact Nat.le_trans (Nat.le_trans this (by first | exact Nat.le_refl _ | simp [Rows.uptoBulk])) hb
    have hDb : ∀ i, i < L → Rows.uptoBulk (D i) ≤ big := fun i hi => by
      have h1 := bulk_part (List.mem_map.2 ⟨i, List.mem_range.2 hi, rfl⟩ : D i ∈ (List.range L).map D)
      rw [hd] at hb
      refine Nat.le_trans (Nat.le_trans h1 ?_) hb
      simp only [Rows.uptoBulk]
      omega
    have each : ∀ i, i < L → ∃ s : Sp, (∃ b off, some ad = some ⟨b, off, none⟩ ∧ W.cell? ⟨b, off + i * 6, none⟩ = some (.string s.tp) ∧ W.cell? ⟨b, off + i * 6 + 1, none⟩ = some (.int .i64 s.pt) ∧ W.cell? ⟨b, off + i * 6 + 2, none⟩ = some (.int .i64 s.st) ∧ W.cell? ⟨b, off + i * 6 + 3, none⟩ = some (.int .i64 s.nx) ∧ W.cell? ⟨b, off + i * 6 + 4, none⟩ = some (.int .i64 s.fr) ∧ W.cell? ⟨b, off + i * 6 + 5, none⟩ = some (.slice s.a s.ss.length s.cap)) ∧ SpUp W s := by
      intro i hi
      have hsp : ad.spot = none := by
        obtain ⟨cs0, h10, _⟩ := hx 0 (by omega)
        rw [cells35] at h10
        obtain ⟨_, hlen0, hcell0⟩ := World.cells?_some h10
        have e := hcell0 0 (by omega)
        rw [List.getElem?_eq_getElem (by omega)] at e
        simpa [Addr.add] using World.cell?_spot e
      obtain ⟨b, off, spot⟩ := ad
      simp only at hsp
      subst hsp
      obtain ⟨cs', h1, h2⟩ := hx i (by omega)
      rw [cells35] at h1
      obtain ⟨_, hlen, hcell⟩ := World.cells?_some h1
      obtain ⟨xs, k, hk, hxy, _, hxl, hf⟩ := DataW.trod_struct Try.underlying35 h2
      match xs, hxl, cs', hlen with
      | [y0, y1, y2, y3, y4, y5], _, [v0, v1, v2, v3, v4, v5], _ =>
        have g0 := hf 0 _ rfl
        have g1 := hf 1 _ rfl
        have g2 := hf 2 _ rfl
        have g3 := hf 3 _ rfl
        have g4 := hf 4 _ rfl
        have g5 := hf 5 _ rfl
        simp [cells3, cells9, cells33] at g0 g1 g2 g3 g4 g5
        have e0 := hcell 0 (by omega)
        have e1 := hcell 1 (by omega)
        have e2 := hcell 2 (by omega)
        have e3 := hcell 3 (by omega)
        have e4 := hcell 4 (by omega)
        have e5 := hcell 5 (by omega)
        obtain ⟨n0, q0, u0, w0⟩ := DataW.trod_string Try.underlying9 g0
        obtain ⟨n1, q1, _, w1⟩ := DataW.trod_int Try.underlying3 g1
        obtain ⟨n2, q2, _, w2⟩ := DataW.trod_int Try.underlying3 g2
        obtain ⟨n3, q3, _, w3⟩ := DataW.trod_int Try.underlying3 g3
        obtain ⟨n4, q4, _, w4⟩ := DataW.trod_int Try.underlying3 g4
        simp at q0 q1 q2 q3 q4
        subst q0; subst q1; subst q2; subst q3; subst q4
        obtain ⟨a1, l1, k1, rfl⟩ : ∃ a1 l1 c1, v5 = .slice a1 l1 c1 := by
          rcases Go.Deep.open_slice Try.underlying33 g5 with ⟨hcs, _⟩ | ⟨ad, len, cap, m, n, D, Pl, hcs, _⟩
          · simp at hcs; exact ⟨_, _, _, hcs⟩
          · simp at hcs; exact ⟨_, _, _, hcs⟩
        have hDi : D i = .agg [y0.1, y1.1, y2.1, y3.1, y4.1, y5.1] := by have := congrArg Prod.fst hxy; simpa using this
        have hDm := hDb i hi
        rw [hDi] at hDm
        have b0 : n0.size ≤ big := bulk_str (congrArg Prod.fst u0) (Nat.le_trans (bulk_agg (by simp)) hDm)
        obtain ⟨ss, rfl, hr⟩ := bats_up g5 (Nat.le_trans (bulk_agg (by simp)) hDm)
        rw [Addr.add_lit, Addr.add_lit] at e0 e1 e2 e3 e4 e5
        simp at e0 e1 e2 e3 e4 e5
        exact ⟨⟨n0, n1, n2, n3, n4, ss, a1, k1⟩, ⟨b, off, rfl, e0, e1, e2, e3, e4, e5⟩, b0, hr⟩
    obtain ⟨l, hll, hr⟩ := list_of spz _ L each
    exact ⟨l, hll.symm, ⟨fun i hi => by rw [hll] at hi; exact (hr i hi).1, by rw [hll]; exact hLb, fun i hi => (hr i (by omega)).2⟩, hl, hm, fun c => by cases c⟩
end Go.Proofs.Ytnnljdnaipjoiaa
