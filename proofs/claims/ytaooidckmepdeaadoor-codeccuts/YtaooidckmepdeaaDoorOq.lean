/- What comes in: a request by value, opened. -/
import Derived.Test.YtaooidckmepdeaaDoorOa
import Derived.Test.YtaooidckmepdeaaDoorKk
import Derived.SizedLaws
namespace Go.Proofs.YtaooidckmepdeaaDoor
set_option linter.unusedSimpArgs false
set_option linter.unusedVariables false
open Go.RowKit Go.ChangeShapes Go.WideShapes Go.ChangeAt
/-- A record that came in. -/
def RcIn (r : Rc) : Prop := In64 r.t ∧ In64 r.o ∧ r.k.size ≤ reachBytes ∧ r.v.size ≤ reachBytes
theorem weights_at {H : Type} {ts : List TypeId} {ds : List (DataW H)} {j : Nat} {t : TypeId} {d : DataW H} (ht : ts[j]? = some t) (hd : ds[j]? = some d) (h : (DataW.weightsEach Tryd.prog ts ds).all (· ≤ reachBytes) = true) : ∀ n ∈ d.weights Tryd.prog t, n ≤ reachBytes := by
  intro n hn
  have := List.all_eq_true.1 h n (DataW.weights_mem_each ht hd n hn)
  simpa using this
theorem mem_all {H : Type} {P : Program} {e : TypeId} : ∀ {ds : List (DataW H)} {d : DataW H}, d ∈ ds → ∀ n ∈ d.weights P e, n ∈ DataW.weightsAll P e ds
  | d0 :: r, d, hd, n, hn => by
    simp only [DataW.weightsAll, List.mem_append]
    rcases List.mem_cons.1 hd with rfl | h
    · exact .inl hn
    · exact .inr (mem_all h n hn)
theorem str_weight {H : Type} {t : TypeId} {s : ByteArray} {y : DataW H} (h : y = .lit (.string s.data.toList)) : s.size ∈ y.weights Tryd.prog t := by
  rw [h]
  exact List.mem_singleton.2 rfl
set_option maxRecDepth 100000 in
theorem recs_in {H : Type} {enc : TypeId × Value → H} {W : World} {base fuel : Nat} {sp : Nat → Bool} {held : Bool} {a0 : Option Addr} {L cap0 : Nat} {x : DataW H × List MemPlace}
    (h : DataW.trod enc Tryd.prog W base sp held fuel 24 [.slice a0 L cap0] = some x) (hw : ∀ n ∈ x.1.weights Tryd.prog 24, n ≤ reachBytes) : ∃ rs : List Rc, L = rs.length ∧ RRow W a0 rs ∧ rs.length ≤ maxLen ∧ (a0 = none → cap0 = 0) ∧ L ≤ cap0 ∧ cap0 ≤ maxLen ∧ ∀ i, i < rs.length → RcIn (rs.getD i rz) := by
  rcases Go.Deep.open_slice Tryd.underlying24 h with ⟨hcs, _⟩ | ⟨ad, len, cap, m, n, D, Pl, hcs, _, hl, hm, hmm, hd, hx⟩
  · simp at hcs
    obtain ⟨rfl, rfl, rfl⟩ := hcs
    exact ⟨[], rfl, RRow.nil _ _, by simp, fun _ => rfl, Nat.le_refl _, by unfold maxLen; omega, fun i hi => by simp at hi⟩
  · simp at hcs
    obtain ⟨rfl, rfl, rfl⟩ := hcs
    have hlm : L ≤ m := by rw [hmm]; split <;> omega
    have each : ∀ i, i < L → ∃ r : Rc, (∃ b off, some ad = some ⟨b, off, none⟩ ∧ W.cell? ⟨b, off + i * 6, none⟩ = some (.bool r.hk) ∧ W.cell? ⟨b, off + i * 6 + 1, none⟩ = some (.string r.k) ∧ W.cell? ⟨b, off + i * 6 + 2, none⟩ = some (.bool r.hv) ∧ W.cell? ⟨b, off + i * 6 + 3, none⟩ = some (.string r.v) ∧ W.cell? ⟨b, off + i * 6 + 4, none⟩ = some (.int .i64 r.t) ∧ W.cell? ⟨b, off + i * 6 + 5, none⟩ = some (.int .i64 r.o)) ∧ RcIn r := by
      intro i hi
      have hsp : ad.spot = none := by
        obtain ⟨cs0, h10, _⟩ := hx 0 (by omega)
        rw [cells87] at h10
        obtain ⟨_, hlen0, hcell0⟩ := World.cells?_some h10
        have e := hcell0 0 (by omega)
        rw [List.getElem?_eq_getElem (by omega)] at e
        simpa [Addr.add] using World.cell?_spot e
      obtain ⟨b, off, spot⟩ := ad
      simp only at hsp
      subst hsp
      obtain ⟨cs', h1, h2⟩ := hx i (by omega)
      rw [cells87] at h1
      obtain ⟨_, hlen, hcell⟩ := World.cells?_some h1
      obtain ⟨xs, k, hk, hxy, _, hxl, hf⟩ := DataW.trod_struct Tryd.underlying87 h2
      match xs, hxl, cs', hlen with
      | [y0, y1, y2, y3, y4, y5], _, [v0, v1, v2, v3, v4, v5], _ =>
        have g0 := hf 0 _ rfl
        have g1 := hf 1 _ rfl
        have g2 := hf 2 _ rfl
        have g3 := hf 3 _ rfl
        have g4 := hf 4 _ rfl
        have g5 := hf 5 _ rfl
        simp [cells3, cells4, cells9] at g0 g1 g2 g3 g4 g5
        have e0 := hcell 0 (by omega)
        have e1 := hcell 1 (by omega)
        have e2 := hcell 2 (by omega)
        have e3 := hcell 3 (by omega)
        have e4 := hcell 4 (by omega)
        have e5 := hcell 5 (by omega)
        obtain ⟨n0, q0, _⟩ := DataW.trod_bool Tryd.underlying4 g0
        obtain ⟨n1, q1, u1, w1⟩ := DataW.trod_string Tryd.underlying9 g1
        obtain ⟨n2, q2, _⟩ := DataW.trod_bool Tryd.underlying4 g2
        obtain ⟨n3, q3, u3, w3⟩ := DataW.trod_string Tryd.underlying9 g3
        have hDi : D i = .agg [y0.1, y1.1, y2.1, y3.1, y4.1, y5.1] := by have := congrArg Prod.fst hxy; simpa using this
        have hin : ∀ m ∈ (D i).weights Tryd.prog 87, m ≤ reachBytes := fun m hm' => hw m (by
          rw [hd]
          simp only [DataW.weights, Tryd.underlying24, List.mem_cons, List.mem_append]
          exact .inr (.inl (mem_all (List.mem_map.2 ⟨i, by simpa using hi, rfl⟩) m hm')))
        have b1 : n1.size ≤ reachBytes := hin _ (by
          rw [hDi]
          simp only [DataW.weights, Tryd.underlying87]
          exact DataW.weights_mem_each (j := 1) rfl rfl _ (str_weight (congrArg Prod.fst u1)))
        have b3 : n3.size ≤ reachBytes := hin _ (by
          rw [hDi]
          simp only [DataW.weights, Tryd.underlying87]
          exact DataW.weights_mem_each (j := 3) rfl rfl _ (str_weight (congrArg Prod.fst u3)))
        obtain ⟨n4, q4, _, w4⟩ := DataW.trod_int Tryd.underlying3 g4
        obtain ⟨n5, q5, _, w5⟩ := DataW.trod_int Tryd.underlying3 g5
        simp at q0 q1 q2 q3 q4 q5
        subst q0; subst q1; subst q2; subst q3; subst q4; subst q5
        rw [Addr.add_lit, Addr.add_lit] at e0 e1 e2 e3 e4 e5
        simp at e0 e1 e2 e3 e4 e5
        exact ⟨⟨n0, n1, n2, n3, n4, n5⟩, ⟨b, off, rfl, e0, e1, e2, e3, e4, e5⟩, bd64 w4, bd64 w5, b1, b3⟩
    obtain ⟨l, hll, hr⟩ := list_of rz _ L each
    exact ⟨l, hll.symm, fun i hi => by rw [hll] at hi; exact (hr i hi).1, by omega, (fun c => by cases c), hl, hm, fun i hi => (hr i (by omega)).2⟩
theorem cells26 : Tryd.prog.cellsOf 26 = 17 := by kernel_rfl
theorem cells23 : Tryd.prog.cellsOf 23 = 5 := by kernel_rfl
theorem array17 {α : Type} {cs : Array α} (h : cs.size = 17) : ∃ c0 c1 c2 c3 c4 c5 c6 c7 c8 c9 c10 c11 c12 c13 c14 c15 c16, cs = #[c0, c1, c2, c3, c4, c5, c6, c7, c8, c9, c10, c11, c12, c13, c14, c15, c16] := by
  obtain ⟨l⟩ := cs
  match l, h with
  | [c0, c1, c2, c3, c4, c5, c6, c7, c8, c9, c10, c11, c12, c13, c14, c15, c16], _ => exact ⟨c0, c1, c2, c3, c4, c5, c6, c7, c8, c9, c10, c11, c12, c13, c14, c15, c16, rfl⟩
/-- A request's fields, by their numbers. -/
def bdq (t0 t1 : ByteArray) (n2 n3 n4 n5 n6 : Int) (c : Bool) (n8 n9 n10 : Int) (rs : List Rc) (n12 n13 n14 : Int) : Bd := fun f =>
  if f = 0 then vt t0 else if f = 1 then vt t1 else if f = 2 then vn n2 else if f = 3 then vn n3 else if f = 4 then vn n4 else if f = 5 then vn n5 else if f = 6 then vn n6 else if f = 7 then vn (bit c) else if f = 8 then vn n8 else if f = 9 then vn n9 else if f = 10 then vn n10 else if f = 11 then vr' rs else if f = 12 then vn n12 else if f = 13 then vn n13 else if f = 14 then vn n14 else fz
theorem bit_in (c : Bool) : In64 (bit c) ∧ (bit c = 0 ∨ bit c = 1) := by cases c <;> simp [bit, In64]
theorem bdq_b (t0 t1 : ByteArray) (n2 n3 n4 n5 n6 : Int) (c : Bool) (n8 n9 n10 : Int) (rs : List Rc) (n12 n13 n14 : Int) (h2 : In64 n2) (h3 : In64 n3) (h4 : In64 n4) (h5 : In64 n5) (h6 : In64 n6) (h8 : In64 n8) (h9 : In64 n9) (h10 : In64 n10) (h12 : In64 n12) (h13 : In64 n13) (h14 : In64 n14) (hr : ∀ r, r ∈ rs → In64 r.t) : RqB (bdq t0 t1 n2 n3 n4 n5 n6 c n8 n9 n10 rs n12 n13 n14) c := by
  refine ⟨⟨fun f hf => ?_, fun f hf => ?_⟩, rfl, rfl, rfl, rfl, rfl, rfl⟩
  · match f, hf with
    | 0, _ => exact (rfl : vt t0 = _)
    | 1, _ => exact (rfl : vt t1 = _)
    | 2, _ => exact ⟨rfl, h2⟩
    | 3, _ => exact ⟨rfl, h3⟩
    | 4, _ => exact ⟨rfl, h4⟩
    | 5, _ => exact ⟨rfl, h5⟩
    | 6, _ => exact ⟨rfl, h6⟩
    | 7, _ => exact ⟨rfl, (bit_in c).2⟩
    | 8, _ => exact ⟨rfl, h8⟩
    | 9, _ => exact ⟨rfl, h9⟩
    | 10, _ => exact ⟨rfl, h10⟩
    | 11, _ => exact ⟨rfl, hr⟩
    | 12, _ => exact ⟨rfl, h12⟩
    | 13, _ => exact ⟨rfl, h13⟩
    | 14, _ => exact ⟨rfl, h14⟩
    | 15, _ => exact VK_fz 15
    | 16, _ => exact VK_fz 16
    | 17, _ => exact VK_fz 17
    | 18, _ => exact VK_fz 18
    | 19, _ => exact VK_fz 19
    | n + 20, h => exact absurd h (by omega)
  · unfold bdq
    rw [if_neg (by omega), if_neg (by omega), if_neg (by omega), if_neg (by omega), if_neg (by omega), if_neg (by omega), if_neg (by omega), if_neg (by omega), if_neg (by omega), if_neg (by omega), if_neg (by omega), if_neg (by omega), if_neg (by omega), if_neg (by omega), if_neg (by omega)]
/-- A request that came in. -/
structure ReqIn (w : World) (k i : Int) (b : Bd) (c : Bool) (ra : Option Addr) (rc : Nat) : Prop where
  hk : In64 k
  hi : In64 i
  hb : RqB b c
  r : RRow w ra (b 11).rs
  l : (b 11).rs.length ≤ maxLen
  n : ra = none → rc = 0
  lc : (b 11).rs.length ≤ rc
  cm : rc ≤ maxLen
  each : ∀ j, j < (b 11).rs.length → RcIn ((b 11).rs.getD j rz)
  t : ∀ f, (b f).t.size ≤ reachBytes
theorem ite_t {p : Prop} [Decidable p] {R : Nat} (a b : Fv) (ha : a.t.size ≤ R) (hb : b.t.size ≤ R) : (if p then a else b).t.size ≤ R := by split <;> assumption
theorem bdq_t (t0 t1 : ByteArray) (n2 n3 n4 n5 n6 : Int) (c : Bool) (n8 n9 n10 : Int) (rs : List Rc) (n12 n13 n14 : Int) (h0 : t0.size ≤ reachBytes) (h1 : t1.size ≤ reachBytes) (f : Nat) : (bdq t0 t1 n2 n3 n4 n5 n6 c n8 n9 n10 rs n12 n13 n14 f).t.size ≤ reachBytes := by
  have z : (⟨#[]⟩ : ByteArray).size ≤ reachBytes := Nat.zero_le _
  unfold bdq
  repeat (first | exact h0 | exact h1 | exact z | refine ite_t _ _ ?_ ?_)
set_option maxRecDepth 100000 in
theorem req_of {H : Type} {enc : TypeId × Value → H} {W : World} {r : Reach} {base b0 : Nat} {sp : Nat → Bool} {held : Bool} {v : Value} {d : DataW H} {p : List MemPlace}
    (hv : Value.okWide Tryd.prog W r b0 26 v) (h : DataW.Trod enc Tryd.prog W base sp held 26 v d p) (hw : ∀ n ∈ d.weights Tryd.prog 26, n ≤ reachBytes) : ∃ (k i : Int) (b : Bd) (c : Bool) (ra : Option Addr) (rc : Nat), v = .agg (rqc k i b c ra rc) ∧ ReqIn W k i b c ra rc := by
  obtain ⟨cs, rfl, hsz⟩ := okWide_struct Tryd.underlying26 hv
  obtain ⟨c0, c1, c2, c3, c4, c5, c6, c7, c8, c9, c10, c11, c12, c13, c14, c15, c16, rfl⟩ := array17 (hsz.trans cells26)
  obtain ⟨fuel, hf⟩ := h
  obtain ⟨xs, k, hk, hxy, _, hxl, hg⟩ := DataW.trod_struct Tryd.underlying26 hf
  match xs, hxl with
  | [y0, y1, y2, y3, y4, y5, y6, y7, y8, y9, y10, y11, y12], _ =>
    have g0 := hg 0 _ rfl
    have g1 := hg 1 _ rfl
    have g2 := hg 2 _ rfl
    have g3 := hg 3 _ rfl
    have g4 := hg 4 _ rfl
    have g5 := hg 5 _ rfl
    have g6 := hg 6 _ rfl
    have g7 := hg 7 _ rfl
    have g8 := hg 8 _ rfl
    have g9 := hg 9 _ rfl
    have g10 := hg 10 _ rfl
    have g11 := hg 11 _ rfl
    have g12 := hg 12 _ rfl
    simp [cells3, cells4, cells9, cells24, cells23, Value.cells] at g0 g1 g2 g3 g4 g5 g6 g7 g8 g9 g10 g11 g12
    obtain ⟨n0, q0, _, w0⟩ := DataW.trod_int Tryd.underlying3 g0
    obtain ⟨n1, q1, _, w1⟩ := DataW.trod_int Tryd.underlying3 g1
    obtain ⟨n2, q2, u2, w2⟩ := DataW.trod_string Tryd.underlying9 g2
    obtain ⟨n3, q3, _, w3⟩ := DataW.trod_int Tryd.underlying3 g3
    obtain ⟨n4, q4, _, w4⟩ := DataW.trod_int Tryd.underlying3 g4
    obtain ⟨n6, q6, _, w6⟩ := DataW.trod_int Tryd.underlying3 g6
    obtain ⟨n7, q7, _, w7⟩ := DataW.trod_int Tryd.underlying3 g7
    obtain ⟨n9, q9, _, w9⟩ := DataW.trod_int Tryd.underlying3 g9
    obtain ⟨n10, q10, _, w10⟩ := DataW.trod_int Tryd.underlying3 g10
    obtain ⟨n11, q11, _, w11⟩ := DataW.trod_int Tryd.underlying3 g11
    obtain ⟨n12, q12, u12, w12⟩ := DataW.trod_string Tryd.underlying9 g12
    have hDi : d = .agg [y0.1, y1.1, y2.1, y3.1, y4.1, y5.1, y6.1, y7.1, y8.1, y9.1, y10.1, y11.1, y12.1] := by have := congrArg Prod.fst hxy; simpa using this
    have b2 : n2.size ≤ reachBytes := hw _ (by
      rw [hDi]
      simp only [DataW.weights, Tryd.underlying26]
      exact DataW.weights_mem_each (j := 2) rfl rfl _ (str_weight (congrArg Prod.fst u2)))
    have b12 : n12.size ≤ reachBytes := hw _ (by
      rw [hDi]
      simp only [DataW.weights, Tryd.underlying26]
      exact DataW.weights_mem_each (j := 12) rfl rfl _ (str_weight (congrArg Prod.fst u12)))
    have b8 : ∀ m ∈ y8.1.weights Tryd.prog 24, m ≤ reachBytes := fun m hm' => hw m (by
      rw [hDi]
      simp only [DataW.weights, Tryd.underlying26]
      exact DataW.weights_mem_each (j := 8) rfl rfl _ hm')
    simp at q0 q1 q2 q3 q4 q6 q7 q9 q10 q11 q12
    subst q0; subst q1; subst q2; subst q3; subst q4; subst q6; subst q7; subst q9; subst q10; subst q11; subst q12
    obtain ⟨a1, l1, k1, rfl⟩ : ∃ a1 l1 c1, c12 = .slice a1 l1 c1 := by
      rcases Go.Deep.open_slice Tryd.underlying24 g8 with ⟨hcs, _⟩ | ⟨ad, len, cap, m, n, D, Pl, hcs, _⟩
      · simp at hcs; exact ⟨_, _, _, hcs⟩
      · simp at hcs; exact ⟨_, _, _, hcs⟩
    obtain ⟨rs, rfl, hr, hl, hn, hlc, hcm, he⟩ := recs_in g8 b8
    obtain ⟨xs, k5, _, _, _, hxl, hg⟩ := DataW.trod_struct Tryd.underlying23 g5
    match xs, hxl with
    | [y0, y1, y2, y3, y4], _ =>
      have s0 := hg 0 _ rfl
      have s1 := hg 1 _ rfl
      have s2 := hg 2 _ rfl
      have s3 := hg 3 _ rfl
      have s4 := hg 4 _ rfl
      simp [cells3, cells4] at s0 s1 s2 s3 s4
      obtain ⟨m0, e0, _, v0⟩ := DataW.trod_int Tryd.underlying3 s0
      obtain ⟨m1, e1, _, v1⟩ := DataW.trod_int Tryd.underlying3 s1
      obtain ⟨m2, e2, _, v2⟩ := DataW.trod_int Tryd.underlying3 s2
      obtain ⟨m3, e3, _⟩ := DataW.trod_bool Tryd.underlying4 s3
      obtain ⟨m4, e4, _, v4⟩ := DataW.trod_int Tryd.underlying3 s4
      simp at e0 e1 e2 e3 e4
      subst e0; subst e1; subst e2; subst e3; subst e4
      refine ⟨n0, n1, bdq n2 n12 n3 n4 m0 m1 m2 m3 m4 n6 n7 rs n9 n10 n11, m3, a1, k1, rfl, bd64 w0, bd64 w1, bdq_b _ _ _ _ _ _ _ _ _ _ _ _ _ _ _ (bd64 w3) (bd64 w4) (bd64 v0) (bd64 v1) (bd64 v2) (bd64 v4) (bd64 w6) (bd64 w7) (bd64 w9) (bd64 w10) (bd64 w11) (fun r hr => ?_), hr, hl, hn, hlc, hcm, he, bdq_t _ _ _ _ _ _ _ _ _ _ _ _ _ _ _ b2 b12⟩
      obtain ⟨j, hj, rfl⟩ := List.getElem_of_mem hr
      have := he j hj
      rw [List.getD_eq_getElem?_getD, List.getElem?_eq_getElem hj] at this
      exact this.1
theorem ReqIn.below {w w' : World} {k i : Int} {b : Bd} {c : Bool} {ra : Option Addr} {rc : Nat} (h : ReqIn w k i b c ra rc) (hb : Below w.heap.size w w') : ReqIn w' k i b c ra rc :=
  ⟨h.hk, h.hi, h.hb, h.r.below hb, h.l, h.n, h.lc, h.cm, h.each, h.t⟩
/-- A request of few records may be written. -/
theorem ReqIn.ok {w : World} {k i : Int} {b : Bd} {c : Bool} {ra : Option Addr} {rc : Nat} (h : ReqIn w k i b c ra rc) (ht : Tab w) (hl : (b 11).rs.length ≤ 100000) : BdOk w b (ptR ra rc) := by
  have z : ∀ f, 17 ≤ f → f ≤ 19 → b f = fz := fun f h1 h2 => by
    rcases (show f = 17 ∨ f = 18 ∨ f = 19 by omega) with rfl | rfl | rfl
    · exact h.hb.z17
    · exact h.hb.z18
    · exact h.hb.z19
  have z17 : (b 17).nm = [] := by rw [z 17 (by omega) (by omega)]; rfl
  have z18 : (b 18).ct = [] := by rw [z 18 (by omega) (by omega)]; rfl
  have z19 : (b 19).bs = [] := by rw [z 19 (by omega) (by omega)]; rfl
  refine ⟨ht, h.r, ?_, ?_, ⟨?_, ?_⟩, ?_, hl, ?_, ?_, ?_, fun j hj => ?_, ?_, fun f => by have := h.t f; unfold reachBytes at this; omega, ?_⟩
  · intro i hi; rw [z17] at hi; cases hi
  · intro i hi; rw [z18] at hi; cases hi
  · intro i hi; cases hi
  · intro i hi; cases hi
  · rw [z19]; rfl
  · rw [z17]; decide
  · rw [z18]; decide
  · exact Nat.zero_le _
  · obtain ⟨q1, _, q2, q3⟩ := h.each j hj
    exact ⟨q1, by unfold reachBytes at q2; omega, by unfold reachBytes at q3; omega⟩
  · intro i hi; rw [z17] at hi; cases hi
  · rw [h.hb.c7]; exact (bit_in c).1
end Go.Proofs.YtaooidckmepdeaaDoor
