/- What comes in: rows of steps, opened; how long texts and rows may be at most. -/
import Derived.Test.YtnnljdnaipjoiaaAw
import Derived.SizedLaws
namespace Go.Proofs.Ytnnljdnaipjoiaa
set_option linter.unusedSimpArgs false
set_option linter.unusedVariables false
open Go.RowKit Go.ChangeShapes Go.WideShapes Go.ChangeAt
theorem weights_at {H : Type} {ts : List TypeId} {ds : List (DataW H)} {j : Nat} {t : TypeId} {d : DataW H} (ht : ts[j]? = some t) (hd : ds[j]? = some d) (h : (DataW.weightsEach Try.prog ts ds).all (· ≤ reachBytes) = true) : ∀ n ∈ d.weights Try.prog t, n ≤ reachBytes := by
  intro n hn
  have := List.all_eq_true.1 h n (DataW.weights_mem_each ht hd n hn)
  simpa using this
theorem mem_all {H : Type} {P : Program} {e : TypeId} : ∀ {ds : List (DataW H)} {d : DataW H}, d ∈ ds → ∀ n ∈ d.weights P e, n ∈ DataW.weightsAll P e ds
  | d0 :: r, d, hd, n, hn => by
    simp only [DataW.weightsAll, List.mem_append]
    rcases List.mem_cons.1 hd with rfl | h
    · exact .inl hn
    · exact .inr (mem_all h n hn)
theorem str_weight {H : Type} {t : TypeId} {s : ByteArray} {y : DataW H} (h : y = .lit (.string s.data.toList)) : s.size ∈ y.weights Try.prog t := by
  rw [h]
  exact List.mem_singleton.2 rfl
theorem b64in {a : Int} (h : (Lit.int .i64 a).wf = true) : In64 a := by
  have : -9223372036854775808 ≤ a ∧ a ≤ 9223372036854775807 := by simpa [Lit.wf, IntKind.min, IntKind.max, IntKind.signed, IntKind.bits] using h
  exact ⟨this.1, by omega⟩
theorem reach_top : reachBytes < 140737488355328 := by decide
def RcUp (r : Rc) : Prop := In64 r.o ∧ r.k.size ≤ reachBytes ∧ r.v.size ≤ reachBytes
/-- Records that came in. -/
structure RsUp (w : World) (a : Option Addr) (rs : List Rc) : Prop where
  row : RRow w a rs
  len : rs.length ≤ maxLen
  each : ∀ i, i < rs.length → RcUp (rs.getD i rz)
set_option maxRecDepth 100000 in
theorem recs_up {H : Type} {enc : TypeId × Value → H} {W : World} {base fuel : Nat} {sp : Nat → Bool} {held : Bool} {a0 : Option Addr} {L cap0 : Nat} {x : DataW H × List MemPlace}
    (h : DataW.trod enc Try.prog W base sp held fuel 50 [.slice a0 L cap0] = some x) (hw : ∀ n ∈ x.1.weights Try.prog 50, n ≤ reachBytes) : ∃ rs : List Rc, L = rs.length ∧ RsUp W a0 rs := by
  rcases Go.Deep.open_slice Try.underlying50 h with ⟨hcs, _⟩ | ⟨ad, len, cap, m, n, D, Pl, hcs, _, hl, hm, hmm, hd, hx⟩
  · simp at hcs
    obtain ⟨rfl, rfl, rfl⟩ := hcs
    exact ⟨[], rfl, ⟨RRow.nil _ _, by simp, fun i hi => by simp at hi⟩⟩
  · simp at hcs
    obtain ⟨rfl, rfl, rfl⟩ := hcs
    have hlm : L ≤ m := by rw [hmm]; split <;> omega
    have hLb : L ≤ maxLen := Nat.le_trans hl hm
    have hin : ∀ i, i < L → ∀ n ∈ (D i).weights Try.prog 48, n ≤ reachBytes := fun i hi n hn => hw n (by
      rw [hd]
      simp only [DataW.weights, Try.underlying50, List.mem_cons, List.mem_append]
      exact .inr (.inl (mem_all (List.mem_map.2 ⟨i, by simpa using hi, rfl⟩) n hn)))
    have each : ∀ i, i < L → ∃ r : Rc, (∃ b off, some ad = some ⟨b, off, none⟩ ∧ W.cell? ⟨b, off + i * 6, none⟩ = some (.bool r.hk) ∧ W.cell? ⟨b, off + i * 6 + 1, none⟩ = some (.string r.k) ∧ W.cell? ⟨b, off + i * 6 + 2, none⟩ = some (.bool r.hv) ∧ W.cell? ⟨b, off + i * 6 + 3, none⟩ = some (.string r.v) ∧ W.cell? ⟨b, off + i * 6 + 4, none⟩ = some (.int .i64 r.t) ∧ W.cell? ⟨b, off + i * 6 + 5, none⟩ = some (.int .i64 r.o)) ∧ RcUp r := by
      intro i hi
      have hsp : ad.spot = none := by
        obtain ⟨cs0, h10, _⟩ := hx 0 (by omega)
        rw [cells48] at h10
        obtain ⟨_, hlen0, hcell0⟩ := World.cells?_some h10
        have e := hcell0 0 (by omega)
        rw [List.getElem?_eq_getElem (by omega)] at e
        simpa [Addr.add] using World.cell?_spot e
      obtain ⟨b, off, spot⟩ := ad
      simp only at hsp
      subst hsp
      obtain ⟨cs', h1, h2⟩ := hx i (by omega)
      rw [cells48] at h1
      obtain ⟨_, hlen, hcell⟩ := World.cells?_some h1
      obtain ⟨xs, k, hk, hxy, _, hxl, hf⟩ := DataW.trod_struct Try.underlying48 h2
      match xs, hxl, cs', hlen with
      | [y0, y1, y2, y3, y4, y5], _, [v0, v1, v2, v3, v4, v5], _ =>
        have g0 := hf 0 _ rfl
        have g1 := hf 1 _ rfl
        have g2 := hf 2 _ rfl
        have g3 := hf 3 _ rfl
        have g4 := hf 4 _ rfl
        have g5 := hf 5 _ rfl
        simp [cells3, cells4, cells9] at g0 g1 g2 g3 g4 g5
        have e0 := hcell 0 (by omega)
        have e1 := hcell 1 (by omega)
        have e2 := hcell 2 (by omega)
        have e3 := hcell 3 (by omega)
        have e4 := hcell 4 (by omega)
        have e5 := hcell 5 (by omega)
        obtain ⟨n0, q0, _⟩ := DataW.trod_bool Try.underlying4 g0
        obtain ⟨n1, q1, u1, w1⟩ := DataW.trod_string Try.underlying9 g1
        obtain ⟨n2, q2, _⟩ := DataW.trod_bool Try.underlying4 g2
        obtain ⟨n3, q3, u3, w3⟩ := DataW.trod_string Try.underlying9 g3
        have hDi : D i = .agg [y0.1, y1.1, y2.1, y3.1, y4.1, y5.1] := by have := congrArg Prod.fst hxy; simpa using this
        have b1 : n1.size ≤ reachBytes := hin i hi _ (by
          rw [hDi]
          simp only [DataW.weights, Try.underlying48]
          exact DataW.weights_mem_each (j := 1) rfl rfl _ (str_weight (congrArg Prod.fst u1)))
        have b3 : n3.size ≤ reachBytes := hin i hi _ (by
          rw [hDi]
          simp only [DataW.weights, Try.underlying48]
          exact DataW.weights_mem_each (j := 3) rfl rfl _ (str_weight (congrArg Prod.fst u3)))
        obtain ⟨n4, q4, _, w4⟩ := DataW.trod_int Try.underlying3 g4
        obtain ⟨n5, q5, _, w5⟩ := DataW.trod_int Try.underlying3 g5
        simp at q0 q1 q2 q3 q4 q5
        subst q0; subst q1; subst q2; subst q3; subst q4; subst q5
        rw [Addr.add_lit, Addr.add_lit] at e0 e1 e2 e3 e4 e5
        simp at e0 e1 e2 e3 e4 e5
        exact ⟨⟨n0, n1, n2, n3, n4, n5⟩, ⟨b, off, rfl, e0, e1, e2, e3, e4, e5⟩, b64in w5, b1, b3⟩
    obtain ⟨l, hll, hr⟩ := list_of rz _ L each
    exact ⟨l, hll.symm, ⟨fun i hi => by rw [hll] at hi; exact (hr i hi).1, by rw [hll]; exact hLb, fun i hi => (hr i (by omega)).2⟩⟩
/-- Batches that came in. -/
structure BsUp (w : World) (a : Option Addr) (ss : List Bs) : Prop where
  cells : BCells w a ss
  len : ss.length ≤ maxLen
  each : ∀ i, i < ss.length → RsUp w (ss.getD i bsz).a (ss.getD i bsz).b.rs
  num : ∀ i, i < ss.length → In64 (ss.getD i bsz).b.base ∧ In64 (ss.getD i bsz).b.span
set_option maxRecDepth 100000 in
theorem bats_up {H : Type} {enc : TypeId × Value → H} {W : World} {base fuel : Nat} {sp : Nat → Bool} {held : Bool} {a0 : Option Addr} {L cap0 : Nat} {x : DataW H × List MemPlace}
    (h : DataW.trod enc Try.prog W base sp held fuel 33 [.slice a0 L cap0] = some x) (hw : ∀ n ∈ x.1.weights Try.prog 33, n ≤ reachBytes) : ∃ ss : List Bs, L = ss.length ∧ BsUp W a0 ss := by
  rcases Go.Deep.open_slice Try.underlying33 h with ⟨hcs, _⟩ | ⟨ad, len, cap, m, n, D, Pl, hcs, _, hl, hm, hmm, hd, hx⟩
  · simp at hcs
    obtain ⟨rfl, rfl, rfl⟩ := hcs
    exact ⟨[], rfl, ⟨fun i hi => by simp at hi, by simp, fun i hi => by simp at hi, fun i hi => by simp at hi⟩⟩
  · simp at hcs
    obtain ⟨rfl, rfl, rfl⟩ := hcs
    have hlm : L ≤ m := by rw [hmm]; split <;> omega
    have hLb : L ≤ maxLen := Nat.le_trans hl hm
    have hin : ∀ i, i < L → ∀ n ∈ (D i).weights Try.prog 61, n ≤ reachBytes := fun i hi n hn => hw n (by
      rw [hd]
      simp only [DataW.weights, Try.underlying33, List.mem_cons, List.mem_append]
      exact .inr (.inl (mem_all (List.mem_map.2 ⟨i, by simpa using hi, rfl⟩) n hn)))
    have each : ∀ i, i < L → ∃ s : Bs, (∃ b off, some ad = some ⟨b, off, none⟩ ∧ W.cell? ⟨b, off + i * 5, none⟩ = some (.int .i64 s.b.base) ∧ W.cell? ⟨b, off + i * 5 + 1, none⟩ = some (.int .i64 s.b.span) ∧ W.cell? ⟨b, off + i * 5 + 2, none⟩ = some (.int .i64 s.b.prod) ∧ W.cell? ⟨b, off + i * 5 + 3, none⟩ = some (.int .i64 s.b.seq) ∧ W.cell? ⟨b, off + i * 5 + 4, none⟩ = some (.slice s.a s.b.rs.length s.cap)) ∧ RsUp W s.a s.b.rs ∧ In64 s.b.base ∧ In64 s.b.span := by
      intro i hi
      have hsp : ad.spot = none := by
        obtain ⟨cs0, h10, _⟩ := hx 0 (by omega)
        rw [cells61] at h10
        obtain ⟨_, hlen0, hcell0⟩ := World.cells?_some h10
        have e := hcell0 0 (by omega)
        rw [List.getElem?_eq_getElem (by omega)] at e
        simpa [Addr.add] using World.cell?_spot e
      obtain ⟨b, off, spot⟩ := ad
      simp only at hsp
      subst hsp
      obtain ⟨cs', h1, h2⟩ := hx i (by omega)
      rw [cells61] at h1
      obtain ⟨_, hlen, hcell⟩ := World.cells?_some h1
      obtain ⟨xs, k, hk, hxy, _, hxl, hf⟩ := DataW.trod_struct Try.underlying61 h2
      match xs, hxl, cs', hlen with
      | [y0, y1, y2, y3, y4], _, [v0, v1, v2, v3, v4], _ =>
        have g0 := hf 0 _ rfl
        have g1 := hf 1 _ rfl
        have g2 := hf 2 _ rfl
        have g3 := hf 3 _ rfl
        have g4 := hf 4 _ rfl
        simp [cells3, cells50] at g0 g1 g2 g3 g4
        have e0 := hcell 0 (by omega)
        have e1 := hcell 1 (by omega)
        have e2 := hcell 2 (by omega)
        have e3 := hcell 3 (by omega)
        have e4 := hcell 4 (by omega)
        obtain ⟨n0, q0, _, w0⟩ := DataW.trod_int Try.underlying3 g0
        obtain ⟨n1, q1, _, w1⟩ := DataW.trod_int Try.underlying3 g1
        obtain ⟨n2, q2, _, w2⟩ := DataW.trod_int Try.underlying3 g2
        obtain ⟨n3, q3, _, w3⟩ := DataW.trod_int Try.underlying3 g3
        simp at q0 q1 q2 q3
        subst q0; subst q1; subst q2; subst q3
        obtain ⟨a1, l1, k1, rfl⟩ : ∃ a1 l1 c1, v4 = .slice a1 l1 c1 := by
          rcases Go.Deep.open_slice Try.underlying50 g4 with ⟨hcs, _⟩ | ⟨ad, len, cap, m, n, D, Pl, hcs, _⟩
          · simp at hcs; exact ⟨_, _, _, hcs⟩
          · simp at hcs; exact ⟨_, _, _, hcs⟩
        have hDi : D i = .agg [y0.1, y1.1, y2.1, y3.1, y4.1] := by have := congrArg Prod.fst hxy; simpa using this
        obtain ⟨rs, rfl, hr⟩ := recs_up g4 (fun n hn => hin i hi n (by
          rw [hDi]
          simp only [DataW.weights, Try.underlying61]
          exact DataW.weights_mem_each (j := 4) rfl rfl n hn))
        rw [Addr.add_lit, Addr.add_lit] at e0 e1 e2 e3 e4
        simp at e0 e1 e2 e3 e4
        exact ⟨⟨⟨n0, n1, n2, n3, rs⟩, a1, k1⟩, ⟨b, off, rfl, e0, e1, e2, e3, e4⟩, hr, b64in w0, b64in w1⟩
    obtain ⟨l, hll, hr⟩ := list_of bsz _ L each
    exact ⟨l, hll.symm, ⟨fun i hi => by rw [hll] at hi; exact (hr i hi).1, by rw [hll]; exact hLb, fun i hi => (hr i (by omega)).2.1, fun i hi => (hr i (by omega)).2.2⟩⟩
/-- A step, and where its batches lie. -/
structure Sp where
  tp : ByteArray
  pt : Int
  st : Int
  nx : Int
  fr : Int
  ss : List Bs
  a : Option Addr
  cap : Nat
def spz : Sp := ⟨⟨#[]⟩, 0, 0, 0, 0, [], none, 0⟩
def Sp.cells (s : Sp) : Array Value := #[.string s.tp, .int .i64 s.pt, .int .i64 s.st, .int .i64 s.nx, .int .i64 s.fr, .slice s.a s.ss.length s.cap]
def SCells (w : World) (a : Option Addr) (l : List Sp) : Prop :=
  ∀ i, i < l.length → ∃ g off, a = some ⟨g, off, none⟩ ∧ w.cell? ⟨g, off + i * 6, none⟩ = some (.string (l.getD i spz).tp) ∧ w.cell? ⟨g, off + i * 6 + 1, none⟩ = some (.int .i64 (l.getD i spz).pt) ∧ w.cell? ⟨g, off + i * 6 + 2, none⟩ = some (.int .i64 (l.getD i spz).st) ∧ w.cell? ⟨g, off + i * 6 + 3, none⟩ = some (.int .i64 (l.getD i spz).nx) ∧ w.cell? ⟨g, off + i * 6 + 4, none⟩ = some (.int .i64 (l.getD i spz).fr) ∧ w.cell? ⟨g, off + i * 6 + 5, none⟩ = some (.slice (l.getD i spz).a (l.getD i spz).ss.length (l.getD i spz).cap)
structure SpUp (w : World) (s : Sp) : Prop where
  t : s.tp.size ≤ reachBytes
  n : In64 s.fr ∧ In64 s.st ∧ In64 s.nx
  b : BsUp w s.a s.ss
structure SsUp (w : World) (a : Option Addr) (l : List Sp) : Prop where
  cells : SCells w a l
  len : l.length ≤ maxLen
  each : ∀ i, i < l.length → SpUp w (l.getD i spz)
theorem cells35 : Try.prog.cellsOf 35 = 6 := by kernel_rfl
theorem cells33 : Try.prog.cellsOf 33 = 1 := by kernel_rfl
set_option maxRecDepth 100000 in
theorem steps_up {H : Type} {enc : TypeId × Value → H} {W : World} {base fuel : Nat} {sp : Nat → Bool} {held : Bool} {a0 : Option Addr} {L cap0 : Nat} {x : DataW H × List MemPlace}
    (h : DataW.trod enc Try.prog W base sp held fuel 22 [.slice a0 L cap0] = some x) (hw : ∀ n ∈ x.1.weights Try.prog 22, n ≤ reachBytes) : ∃ l : List Sp, L = l.length ∧ SsUp W a0 l ∧ L ≤ cap0 ∧ cap0 ≤ maxLen ∧ (a0 = none → cap0 = 0) := by
  rcases Go.Deep.open_slice Try.underlying22 h with ⟨hcs, _⟩ | ⟨ad, len, cap, m, n, D, Pl, hcs, _, hl, hm, hmm, hd, hx⟩
  · simp at hcs
    obtain ⟨rfl, rfl, rfl⟩ := hcs
    exact ⟨[], rfl, ⟨fun i hi => by simp at hi, by simp, fun i hi => by simp at hi⟩, Nat.le_refl _, by unfold maxLen; omega, fun _ => rfl⟩
  · simp at hcs
    obtain ⟨rfl, rfl, rfl⟩ := hcs
    have hlm : L ≤ m := by rw [hmm]; split <;> omega
    have hLb : L ≤ maxLen := Nat.le_trans hl hm
    have hin : ∀ i, i < L → ∀ n ∈ (D i).weights Try.prog 35, n ≤ reachBytes := fun i hi n hn => hw n (by
      rw [hd]
      simp only [DataW.weights, Try.underlying22, List.mem_cons, List.mem_append]
      exact .inr (.inl (mem_all (List.mem_map.2 ⟨i, by simpa using hi, rfl⟩) n hn)))
    have each : ∀ i, i < L → ∃ s : Sp, (∃ b off, some ad = some ⟨b, off, none⟩ ∧ W.cell? ⟨b, off + i * 6, none⟩ = some (.string s.tp) ∧ W.cell? ⟨b, off + i * 6 + 1, none⟩ = some (.int .i64 s.pt) ∧ W.cell? ⟨b, off + i * 6 + 2, none⟩ = some (.int .i64 s.st) ∧ W.cell? ⟨b, off + i * 6 + 3, none⟩ = some (.int .i64 s.nx) ∧ W.cell? ⟨b, off + i * 6 + 4, none⟩ = some (.int .i64 s.fr) ∧ W.cell? ⟨b, off + i * 6 + 5, none⟩ = some (.slice s.a s.ss.length s.cap)) ∧ SpUp W s := by
      intro i hi
      have hsp : ad.spot = none := by
        obtain ⟨cs0, h10, _⟩ := hx 0 (by omega)
        rw [cells35] at h10
        obtain ⟨_, hlen0, hcell0⟩ := World.cells?_some h10
        have e := hcell0 0 (by omega)
        rw [List.getElem?_eq_getElem (by omega)] at e
        simpa [Addr.add] using World.cell?_spot e
      obtain ⟨b, off, spot⟩ := ad
      simp only at hsp
      subst hsp
      obtain ⟨cs', h1, h2⟩ := hx i (by omega)
      rw [cells35] at h1
      obtain ⟨_, hlen, hcell⟩ := World.cells?_some h1
      obtain ⟨xs, k, hk, hxy, _, hxl, hf⟩ := DataW.trod_struct Try.underlying35 h2
      match xs, hxl, cs', hlen with
      | [y0, y1, y2, y3, y4, y5], _, [v0, v1, v2, v3, v4, v5], _ =>
        have g0 := hf 0 _ rfl
        have g1 := hf 1 _ rfl
        have g2 := hf 2 _ rfl
        have g3 := hf 3 _ rfl
        have g4 := hf 4 _ rfl
        have g5 := hf 5 _ rfl
        simp [cells3, cells9, cells33] at g0 g1 g2 g3 g4 g5
        have e0 := hcell 0 (by omega)
        have e1 := hcell 1 (by omega)
        have e2 := hcell 2 (by omega)
        have e3 := hcell 3 (by omega)
        have e4 := hcell 4 (by omega)
        have e5 := hcell 5 (by omega)
        obtain ⟨n0, q0, u0, w0⟩ := DataW.trod_string Try.underlying9 g0
        obtain ⟨n1, q1, _, w1⟩ := DataW.trod_int Try.underlying3 g1
        obtain ⟨n2, q2, _, w2⟩ := DataW.trod_int Try.underlying3 g2
        obtain ⟨n3, q3, _, w3⟩ := DataW.trod_int Try.underlying3 g3
        obtain ⟨n4, q4, _, w4⟩ := DataW.trod_int Try.underlying3 g4
        simp at q0 q1 q2 q3 q4
        subst q0; subst q1; subst q2; subst q3; subst q4
        obtain ⟨a1, l1, k1, rfl⟩ : ∃ a1 l1 c1, v5 = .slice a1 l1 c1 := by
          rcases Go.Deep.open_slice Try.underlying33 g5 with ⟨hcs, _⟩ | ⟨ad, len, cap, m, n, D, Pl, hcs, _⟩
          · simp at hcs; exact ⟨_, _, _, hcs⟩
          · simp at hcs; exact ⟨_, _, _, hcs⟩
        have hDi : D i = .agg [y0.1, y1.1, y2.1, y3.1, y4.1, y5.1] := by have := congrArg Prod.fst hxy; simpa using this
        have b0 : n0.size ≤ reachBytes := hin i hi _ (by
          rw [hDi]
          simp only [DataW.weights, Try.underlying35]
          exact DataW.weights_mem_each (j := 0) rfl rfl _ (str_weight (congrArg Prod.fst u0)))
        obtain ⟨ss, rfl, hr⟩ := bats_up g5 (fun n hn => hin i hi n (by
          rw [hDi]
          simp only [DataW.weights, Try.underlying35]
          exact DataW.weights_mem_each (j := 5) rfl rfl n hn))
        rw [Addr.add_lit, Addr.add_lit] at e0 e1 e2 e3 e4 e5
        simp at e0 e1 e2 e3 e4 e5
        exact ⟨⟨n0, n1, n2, n3, n4, ss, a1, k1⟩, ⟨b, off, rfl, e0, e1, e2, e3, e4, e5⟩, b0, ⟨b64in w4, b64in w2, b64in w3⟩, hr⟩
    obtain ⟨l, hll, hr⟩ := list_of spz _ L each
    exact ⟨l, hll.symm, ⟨fun i hi => by rw [hll] at hi; exact (hr i hi).1, by rw [hll]; exact hLb, fun i hi => (hr i (by omega)).2⟩, hl, hm, fun c => by cases c⟩
end Go.Proofs.Ytnnljdnaipjoiaa
