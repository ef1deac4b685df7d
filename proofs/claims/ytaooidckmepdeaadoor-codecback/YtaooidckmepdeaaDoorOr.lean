/- What comes in: a response by value, opened. -/
import Derived.Test.YtaooidckmepdeaaDoorGj
namespace Go.Proofs.YtaooidckmepdeaaDoor
set_option linter.unusedSimpArgs false
set_option linter.unusedVariables false
open Go.RowKit Go.ChangeShapes Go.WideShapes Go.ChangeAt
theorem bytesOf9 : Tryd.prog.bytesOf 9 = 16 := by kernel_rfl
theorem bytesOf3 : Tryd.prog.bytesOf 3 = 8 := by kernel_rfl
theorem bytesOf85 : Tryd.prog.bytesOf 85 = 56 := by kernel_rfl
theorem cells36 : Tryd.prog.cellsOf 36 = 1 := by kernel_rfl
theorem cells37 : Tryd.prog.cellsOf 37 = 1 := by kernel_rfl
theorem cells38 : Tryd.prog.cellsOf 38 = 1 := by kernel_rfl
theorem cells30 : Tryd.prog.cellsOf 30 = 1 := by kernel_rfl
theorem cells40 : Tryd.prog.cellsOf 40 = 9 := by kernel_rfl
theorem strs_of {H : Type} {enc : TypeId × Value → H} {W : World} {base fuel : Nat} {sp : Nat → Bool} {held : Bool} {a0 : Option Addr} {L cap0 : Nat} {x : DataW H × List MemPlace}
    (h : DataW.trod enc Tryd.prog W base sp held fuel 36 [.slice a0 L cap0] = some x) (hw : ∀ n ∈ x.1.weights Tryd.prog 36, n ≤ reachBytes) : ∃ l : List ByteArray, L = l.length ∧ SRow W a0 l ∧ l.length ≤ reachBytes ∧ ∀ s, s ∈ l → s.size ≤ maxLen := by
  rcases Go.Deep.open_slice1 Tryd.underlying36 cells9 h with ⟨hcs, _⟩ | ⟨ad, len, cap, m, n, V, D, Pl, hcs, _, hl, hm, hmm, hd, hx⟩
  · simp at hcs
    obtain ⟨rfl, rfl, rfl⟩ := hcs
    exact ⟨[], rfl, fun i hi => by simp at hi, by simp, fun s hs => by cases hs⟩
  · simp at hcs
    obtain ⟨rfl, rfl, rfl⟩ := hcs
    have hlm : L ≤ m := by rw [hmm]; split <;> omega
    have hL : (L + (m - L)) * 16 ≤ reachBytes := hw _ (by rw [hd]; simp [DataW.weights, Tryd.underlying36, bytesOf9])
    have each : ∀ i, i < L → ∃ s : ByteArray, (∃ g off, some ad = some ⟨g, off, none⟩ ∧ W.cell? ⟨g, off + i, none⟩ = some (.string s)) ∧ s.size ≤ maxLen := by
      intro i hi
      obtain ⟨h1, h2⟩ := hx i (by omega)
      obtain ⟨b, off, spot⟩ := ad
      have hsp : spot = none := by
        have h0 := (hx 0 (by omega)).1
        simpa [Addr.add] using World.cell?_spot h0
      subst hsp
      obtain ⟨s, q, _, w1⟩ := DataW.trod_string Tryd.underlying9 h2
      simp at q
      rw [q, Addr.add_lit] at h1
      exact ⟨s, ⟨b, off, rfl, h1⟩, w1⟩
    obtain ⟨l, hll, hr⟩ := list_of ⟨#[]⟩ _ L each
    refine ⟨l, hll.symm, fun i hi => by rw [hll] at hi; exact (hr i hi).1, by unfold reachBytes at *; omega, fun s hs => ?_⟩
    obtain ⟨j, hj, rfl⟩ := List.getElem_of_mem hs
    have := (hr j (by omega)).2
    rw [List.getD_eq_getElem?_getD, List.getElem?_eq_getElem hj] at this
    exact this
theorem ints_of {H : Type} {enc : TypeId × Value → H} {W : World} {base fuel : Nat} {sp : Nat → Bool} {held : Bool} {a0 : Option Addr} {L cap0 : Nat} {x : DataW H × List MemPlace}
    (h : DataW.trod enc Tryd.prog W base sp held fuel 37 [.slice a0 L cap0] = some x) (hw : ∀ n ∈ x.1.weights Tryd.prog 37, n ≤ reachBytes) : ∃ l : List Int, L = l.length ∧ IRow W a0 l ∧ l.length ≤ reachBytes ∧ ∀ s, s ∈ l → In64 s := by
  rcases Go.Deep.open_slice1 Tryd.underlying37 cells3 h with ⟨hcs, _⟩ | ⟨ad, len, cap, m, n, V, D, Pl, hcs, _, hl, hm, hmm, hd, hx⟩
  · simp at hcs
    obtain ⟨rfl, rfl, rfl⟩ := hcs
    exact ⟨[], rfl, fun i hi => by simp at hi, by simp, fun s hs => by cases hs⟩
  · simp at hcs
    obtain ⟨rfl, rfl, rfl⟩ := hcs
    have hlm : L ≤ m := by rw [hmm]; split <;> omega
    have hL : (L + (m - L)) * 8 ≤ reachBytes := hw _ (by rw [hd]; simp [DataW.weights, Tryd.underlying37, bytesOf3])
    have each : ∀ i, i < L → ∃ s : Int, (∃ g off, some ad = some ⟨g, off, none⟩ ∧ W.cell? ⟨g, off + i, none⟩ = some (.int .i64 s)) ∧ In64 s := by
      intro i hi
      obtain ⟨h1, h2⟩ := hx i (by omega)
      obtain ⟨b, off, spot⟩ := ad
      have hsp : spot = none := by
        have h0 := (hx 0 (by omega)).1
        simpa [Addr.add] using World.cell?_spot h0
      subst hsp
      obtain ⟨s, q, _, w1⟩ := DataW.trod_int Tryd.underlying3 h2
      simp at q
      rw [q, Addr.add_lit] at h1
      exact ⟨s, ⟨b, off, rfl, h1⟩, bd64 w1⟩
    obtain ⟨l, hll, hr⟩ := list_of 0 _ L each
    refine ⟨l, hll.symm, fun i hi => by rw [hll] at hi; exact (hr i hi).1, by unfold reachBytes at *; omega, fun s hs => ?_⟩
    obtain ⟨j, hj, rfl⟩ := List.getElem_of_mem hs
    have := (hr j (by omega)).2
    rw [List.getD_eq_getElem?_getD, List.getElem?_eq_getElem hj] at this
    exact this
theorem bats_len {H : Type} {enc : TypeId × Value → H} {W : World} {base fuel : Nat} {sp : Nat → Bool} {held : Bool} {a0 : Option Addr} {L cap0 : Nat} {x : DataW H × List MemPlace}
    (h : DataW.trod enc Tryd.prog W base sp held fuel 38 [.slice a0 L cap0] = some x) (hw : ∀ n ∈ x.1.weights Tryd.prog 38, n ≤ reachBytes) : L ≤ reachBytes := by
  rcases Go.Deep.open_slice Tryd.underlying38 h with ⟨hcs, _⟩ | ⟨ad, len, cap, m, n, D, Pl, hcs, _, hl, hm, hmm, hd, hx⟩
  · simp at hcs
    omega
  · simp at hcs
    obtain ⟨rfl, rfl, rfl⟩ := hcs
    have hL : (L + (m - L)) * 56 ≤ reachBytes := hw _ (by rw [hd]; simp [DataW.weights, Tryd.underlying38, bytesOf85])
    unfold reachBytes at *
    omega
theorem array9 {α : Type} {cs : Array α} (h : cs.size = 9) : ∃ c0 c1 c2 c3 c4 c5 c6 c7 c8, cs = #[c0, c1, c2, c3, c4, c5, c6, c7, c8] := by
  obtain ⟨l⟩ := cs
  match l, h with
  | [c0, c1, c2, c3, c4, c5, c6, c7, c8], _ => exact ⟨c0, c1, c2, c3, c4, c5, c6, c7, c8, rfl⟩
/-- A response's fields, by their numbers. -/
def bds (n12 n15 n16 : Int) (nm : List ByteArray) (ct : List Int) (bs : List Ba) : Bd := fun f =>
  if f = 12 then vn n12 else if f = 15 then vn n15 else if f = 16 then vn n16 else if f = 17 then vm nm else if f = 18 then vc ct else if f = 19 then vb bs else fz
theorem bds_b (n12 n15 n16 : Int) (nm : List ByteArray) (ct : List Int) (bs : List Ba) (h12 : In64 n12) (h15 : In64 n15) (h16 : In64 n16) (hc : ∀ x, x ∈ ct → In64 x) (hb : ∀ x, x ∈ bs → In64B x) : VB (bds n12 n15 n16 nm ct bs) ∧ ∀ f, f ≤ 14 → f ≠ 12 → bds n12 n15 n16 nm ct bs f = fz := by
  have low : ∀ f, f ≤ 14 → f ≠ 12 → bds n12 n15 n16 nm ct bs f = fz := fun f h1 h2 => by
    unfold bds
    rw [if_neg h2, if_neg (by omega), if_neg (by omega), if_neg (by omega), if_neg (by omega), if_neg (by omega)]
  refine ⟨⟨fun f hf => ?_, fun f hf => ?_⟩, low⟩
  · by_cases h : f ≤ 14 ∧ f ≠ 12
    · rw [low f h.1 h.2]; exact VK_fz f
    · rcases (show f = 12 ∨ f = 15 ∨ f = 16 ∨ f = 17 ∨ f = 18 ∨ f = 19 by omega) with rfl | rfl | rfl | rfl | rfl | rfl
      · exact ⟨rfl, h12⟩
      · exact ⟨rfl, h15⟩
      · exact ⟨rfl, h16⟩
      · exact (rfl : vm nm = _)
      · exact ⟨rfl, hc⟩
      · exact ⟨rfl, hb⟩
  · unfold bds
    rw [if_neg (by omega), if_neg (by omega), if_neg (by omega), if_neg (by omega), if_neg (by omega), if_neg (by omega)]
/-- A response that came in. -/
structure ResIn (w : World) (k i d : Int) (b : Bd) (p : Pt) : Prop where
  hk : In64 k
  hi : In64 i
  hd : In64 d
  v : VB b
  z : ∀ f, f ≤ 14 → f ≠ 12 → b f = fz
  r : SRows w b p
  ln : (b 17).nm.length ≤ reachBytes
  lc : (b 18).ct.length ≤ reachBytes
  lb : (b 19).bs.length ≤ reachBytes
  ne : ∀ x, x ∈ (b 17).nm → x.size ≤ maxLen
theorem ResIn.below {w w' : World} {k i d : Int} {b : Bd} {p : Pt} (h : ResIn w k i d b p) (hb : Below w.heap.size w w') : ResIn w' k i d b p :=
  ⟨h.hk, h.hi, h.hd, h.v, h.z, h.r.below hb, h.ln, h.lc, h.lb, h.ne⟩
set_option maxRecDepth 100000 in
theorem resp_of {H : Type} {enc : TypeId × Value → H} {W : World} {r : Reach} {base b0 : Nat} {sp : Nat → Bool} {held : Bool} {v : Value} {d : DataW H} {p : List MemPlace}
    (hv : Value.okWide Tryd.prog W r b0 40 v) (h : DataW.Trod enc Tryd.prog W base sp held 40 v d p) (hw : ∀ n ∈ d.weights Tryd.prog 40, n ≤ reachBytes) : ∃ (k i e : Int) (b : Bd) (q : Pt), v = .agg (rsc k i e b q) ∧ ResIn W k i e b q := by
  obtain ⟨cs, rfl, hsz⟩ := okWide_struct Tryd.underlying40 hv
  obtain ⟨c0, c1, c2, c3, c4, c5, c6, c7, c8, rfl⟩ := array9 (hsz.trans cells40)
  obtain ⟨fuel, hf⟩ := h
  obtain ⟨xs, k, hk, hxy, _, hxl, hg⟩ := DataW.trod_struct Tryd.underlying40 hf
  match xs, hxl with
  | [y0, y1, y2, y3, y4, y5, y6, y7, y8], _ =>
    have g0 := hg 0 _ rfl
    have g1 := hg 1 _ rfl
    have g2 := hg 2 _ rfl
    have g3 := hg 3 _ rfl
    have g4 := hg 4 _ rfl
    have g5 := hg 5 _ rfl
    have g6 := hg 6 _ rfl
    have g7 := hg 7 _ rfl
    have g8 := hg 8 _ rfl
    simp [cells3, cells30, cells36, cells37, cells38, Value.cells] at g0 g1 g2 g3 g4 g5 g6 g7 g8
    obtain ⟨n0, q0, _, w0⟩ := DataW.trod_int Tryd.underlying3 g0
    obtain ⟨n1, q1, _, w1⟩ := DataW.trod_int Tryd.underlying3 g1
    obtain ⟨n2, q2, _, w2⟩ := DataW.trod_int Tryd.underlying30 g2
    obtain ⟨n3, q3, _, w3⟩ := DataW.trod_int Tryd.underlying3 g3
    obtain ⟨n4, q4, _, w4⟩ := DataW.trod_int Tryd.underlying3 g4
    obtain ⟨n5, q5, _, w5⟩ := DataW.trod_int Tryd.underlying3 g5
    simp at q0 q1 q2 q3 q4 q5
    subst q0; subst q1; subst q2; subst q3; subst q4; subst q5
    have hDi : d = .agg [y0.1, y1.1, y2.1, y3.1, y4.1, y5.1, y6.1, y7.1, y8.1] := by have := congrArg Prod.fst hxy; simpa using this
    have b6 : ∀ m ∈ y6.1.weights Tryd.prog 36, m ≤ reachBytes := fun m hm' => hw m (by
      rw [hDi]
      simp only [DataW.weights, Tryd.underlying40]
      exact DataW.weights_mem_each (j := 6) rfl rfl _ hm')
    have b7 : ∀ m ∈ y7.1.weights Tryd.prog 37, m ≤ reachBytes := fun m hm' => hw m (by
      rw [hDi]
      simp only [DataW.weights, Tryd.underlying40]
      exact DataW.weights_mem_each (j := 7) rfl rfl _ hm')
    have b8 : ∀ m ∈ y8.1.weights Tryd.prog 38, m ≤ reachBytes := fun m hm' => hw m (by
      rw [hDi]
      simp only [DataW.weights, Tryd.underlying40]
      exact DataW.weights_mem_each (j := 8) rfl rfl _ hm')
    obtain ⟨a6, l6, k6, rfl⟩ : ∃ a1 l1 c1, c6 = .slice a1 l1 c1 := by
      rcases Go.Deep.open_slice Tryd.underlying36 g6 with ⟨hcs, _⟩ | ⟨ad, len, cap, m, n, D, Pl, hcs, _⟩
      · simp at hcs; exact ⟨_, _, _, hcs⟩
      · simp at hcs; exact ⟨_, _, _, hcs⟩
    obtain ⟨a7, l7, k7, rfl⟩ : ∃ a1 l1 c1, c7 = .slice a1 l1 c1 := by
      rcases Go.Deep.open_slice Tryd.underlying37 g7 with ⟨hcs, _⟩ | ⟨ad, len, cap, m, n, D, Pl, hcs, _⟩
      · simp at hcs; exact ⟨_, _, _, hcs⟩
      · simp at hcs; exact ⟨_, _, _, hcs⟩
    obtain ⟨a8, l8, k8, rfl⟩ : ∃ a1 l1 c1, c8 = .slice a1 l1 c1 := by
      rcases Go.Deep.open_slice Tryd.underlying38 g8 with ⟨hcs, _⟩ | ⟨ad, len, cap, m, n, D, Pl, hcs, _⟩
      · simp at hcs; exact ⟨_, _, _, hcs⟩
      · simp at hcs; exact ⟨_, _, _, hcs⟩
    obtain ⟨nm, rfl, hn1, hn2, hn3⟩ := strs_of g6 b6
    obtain ⟨ct, rfl, hc1, hc2, hc3⟩ := ints_of g7 b7
    have hb2 := bats_len g8 b8
    obtain ⟨ss, rfl, hb1, _⟩ := bats_of g8
    obtain ⟨v1, v2⟩ := bds_b n3 n4 n5 nm ct (ss.map (·.b)) (bd64 w3) (bd64 w4) (bd64 w5) hc3 (fun x hx => by
      obtain ⟨s, hs, rfl⟩ := List.mem_map.1 hx
      obtain ⟨j, hj, rfl⟩ := List.getElem_of_mem hs
      have := (hb1.2 j hj).2.1
      rw [List.getD_eq_getElem?_getD, List.getElem?_eq_getElem hj] at this
      exact this)
    exact ⟨n0, n1, n2, bds n3 n4 n5 nm ct (ss.map (·.b)), ⟨none, 0, a6, k6, a7, k7, a8, k8, ss⟩, rfl, bd64 w0, bd64 w1, bd64 w2, v1, v2, ⟨⟨rfl, rfl⟩, hn1, hc1, hb1, rfl⟩, hn2, hc2, by show (ss.map (·.b)).length ≤ _; rw [List.length_map]; exact hb2, hn3⟩
theorem ResIn.val {w : World} {k i d : Int} {b : Bd} {p : Pt} (h : ResIn w k i d b p) : SVal w (rsc k i d b p) k i d b := ⟨p, rfl, h.r⟩
end Go.Proofs.YtaooidckmepdeaaDoor
