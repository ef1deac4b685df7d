/- Rows of batches: those that come in, and those of the call's own. -/
import Derived.Test.YtaooidckmepdeaaDoorOa
import Derived.Test.YtaooidckmepdeaaDoorRo
namespace Go.Proofs.YtaooidckmepdeaaDoor
set_option linter.unusedSimpArgs false
set_option linter.unusedVariables false
open Go.RowKit Go.ChangeShapes Go.WideShapes Go.ChangeAt
/-- A batch, and where its records lie. -/
structure Bs where
  b : Ba
  a : Option Addr
  cap : Nat
def bsz : Bs := ⟨⟨0, 0, 0, 0, []⟩, none, 0⟩
def BCells (w : World) (a : Option Addr) (ss : List Bs) : Prop :=
  ∀ i, i < ss.length → ∃ g off, a = some ⟨g, off, none⟩ ∧ w.cell? ⟨g, off + i * 5, none⟩ = some (.int .i64 (ss.getD i bsz).b.base) ∧ w.cell? ⟨g, off + i * 5 + 1, none⟩ = some (.int .i64 (ss.getD i bsz).b.span) ∧ w.cell? ⟨g, off + i * 5 + 2, none⟩ = some (.int .i64 (ss.getD i bsz).b.prod) ∧ w.cell? ⟨g, off + i * 5 + 3, none⟩ = some (.int .i64 (ss.getD i bsz).b.seq) ∧ w.cell? ⟨g, off + i * 5 + 4, none⟩ = some (.slice (ss.getD i bsz).a (ss.getD i bsz).b.rs.length (ss.getD i bsz).cap)
def AllB (w : World) (ss : List Bs) : Prop := ∀ i, i < ss.length → BaOk w (ss.getD i bsz).b (ss.getD i bsz).a (ss.getD i bsz).cap
def BRow (w : World) (a : Option Addr) (ss : List Bs) : Prop := BCells w a ss ∧ AllB w ss
theorem BCells.below {w w' : World} {a : Option Addr} {ss : List Bs} (h : BCells w a ss) (hb : Below w.heap.size w w') : BCells w' a ss := by
  intro i hi
  obtain ⟨b, off, e, h0, h1, h2, h3, h4⟩ := h i hi
  exact ⟨b, off, e, (hb.cell (World.block_lt_of_cell? _ _ h0)).trans h0, (hb.cell (World.block_lt_of_cell? _ _ h1)).trans h1, (hb.cell (World.block_lt_of_cell? _ _ h2)).trans h2, (hb.cell (World.block_lt_of_cell? _ _ h3)).trans h3, (hb.cell (World.block_lt_of_cell? _ _ h4)).trans h4⟩
theorem BaOk.below {w w' : World} {b : Ba} {a : Option Addr} {cap : Nat} (h : BaOk w b a cap) (hb : Below w.heap.size w w') : BaOk w' b a cap := ⟨h.1.below hb, h.2⟩
theorem AllB.below {w w' : World} {ss : List Bs} (h : AllB w ss) (hb : Below w.heap.size w w') : AllB w' ss := fun i hi => (h i hi).below hb
theorem AllB.mem {w : World} {ss : List Bs} (h : AllB w ss) : ∀ s, s ∈ ss → BaOk w s.b s.a s.cap := by
  intro s hs
  obtain ⟨i, hi, rfl⟩ := List.getElem_of_mem hs
  have := h i hi
  simpa [List.getD, hi] using this
set_option maxRecDepth 100000 in
theorem bats_of {H : Type} {enc : TypeId × Value → H} {W : World} {base fuel : Nat} {sp : Nat → Bool} {held : Bool} {a0 : Option Addr} {L cap0 : Nat} {x : DataW H × List MemPlace}
    (h : DataW.trod enc Tryd.prog W base sp held fuel 38 [.slice a0 L cap0] = some x) : ∃ ss : List Bs, L = ss.length ∧ BRow W a0 ss ∧ ss.length ≤ maxLen := by
  rcases Go.Deep.open_slice Tryd.underlying38 h with ⟨hcs, _⟩ | ⟨ad, len, cap, m, n, D, Pl, hcs, _, hl, hm, hmm, _, hx⟩
  · simp at hcs
    obtain ⟨rfl, rfl, rfl⟩ := hcs
    exact ⟨[], rfl, ⟨fun i hi => by simp at hi, fun i hi => by simp at hi⟩, by simp⟩
  · simp at hcs
    obtain ⟨rfl, rfl, rfl⟩ := hcs
    have hlm : L ≤ m := by rw [hmm]; split <;> omega
    have each : ∀ i, i < L → ∃ s : Bs, (∃ b off, some ad = some ⟨b, off, none⟩ ∧ W.cell? ⟨b, off + i * 5, none⟩ = some (.int .i64 s.b.base) ∧ W.cell? ⟨b, off + i * 5 + 1, none⟩ = some (.int .i64 s.b.span) ∧ W.cell? ⟨b, off + i * 5 + 2, none⟩ = some (.int .i64 s.b.prod) ∧ W.cell? ⟨b, off + i * 5 + 3, none⟩ = some (.int .i64 s.b.seq) ∧ W.cell? ⟨b, off + i * 5 + 4, none⟩ = some (.slice s.a s.b.rs.length s.cap)) ∧ BaOk W s.b s.a s.cap := by
      intro i hi
      have hsp : ad.spot = none := by
        obtain ⟨cs0, h10, _⟩ := hx 0 (by omega)
        rw [cells85] at h10
        obtain ⟨_, hlen0, hcell0⟩ := World.cells?_some h10
        have e := hcell0 0 (by omega)
        rw [List.getElem?_eq_getElem (by omega)] at e
        simpa [Addr.add] using World.cell?_spot e
      obtain ⟨b, off, spot⟩ := ad
      simp only at hsp
      subst hsp
      obtain ⟨cs', h1, h2⟩ := hx i (by omega)
      rw [cells85] at h1
      obtain ⟨_, hlen, hcell⟩ := World.cells?_some h1
      obtain ⟨xs, k, hk, hxy, _, hxl, hf⟩ := DataW.trod_struct Tryd.underlying85 h2
      match xs, hxl, cs', hlen with
      | [y0, y1, y2, y3, y4], _, [v0, v1, v2, v3, v4], _ =>
        have g0 := hf 0 _ rfl
        have g1 := hf 1 _ rfl
        have g2 := hf 2 _ rfl
        have g3 := hf 3 _ rfl
        have g4 := hf 4 _ rfl
        simp [cells3, cells24] at g0 g1 g2 g3 g4
        have e0 := hcell 0 (by omega)
        have e1 := hcell 1 (by omega)
        have e2 := hcell 2 (by omega)
        have e3 := hcell 3 (by omega)
        have e4 := hcell 4 (by omega)
        obtain ⟨n0, q0, _, w0⟩ := DataW.trod_int Tryd.underlying3 g0
        obtain ⟨n1, q1, _, w1⟩ := DataW.trod_int Tryd.underlying3 g1
        obtain ⟨n2, q2, _, w2⟩ := DataW.trod_int Tryd.underlying3 g2
        obtain ⟨n3, q3, _, w3⟩ := DataW.trod_int Tryd.underlying3 g3
        simp at q0 q1 q2 q3
        subst q0; subst q1; subst q2; subst q3
        obtain ⟨a1, l1, k1, rfl⟩ : ∃ a1 l1 c1, v4 = .slice a1 l1 c1 := by
          rcases Go.Deep.open_slice Tryd.underlying24 g4 with ⟨hcs, _⟩ | ⟨ad, len, cap, m, n, D, Pl, hcs, _⟩
          · simp at hcs; exact ⟨_, _, _, hcs⟩
          · simp at hcs; exact ⟨_, _, _, hcs⟩
        obtain ⟨rs, rfl, hr, hl, hn⟩ := recs_of g4
        rw [Addr.add_lit, Addr.add_lit] at e0 e1 e2 e3 e4
        simp at e0 e1 e2 e3 e4
        exact ⟨⟨⟨n0, n1, n2, n3, rs⟩, a1, k1⟩, ⟨b, off, rfl, e0, e1, e2, e3, e4⟩, hr, ⟨(bd64 w2).2, (bd64 w3).2⟩, hl, hn, w0, w1⟩
    obtain ⟨l, hll, hr⟩ := list_of bsz _ L each
    exact ⟨l, hll.symm, ⟨fun i hi => by rw [hll] at hi; exact (hr i hi).1, fun i hi => by rw [hll] at hi; exact (hr i hi).2⟩, by omega⟩
theorem Tryd.info85z : (Tryd.prog.info? 85).map (fun i => (i.zero, i.size)) = some (some (.agg #[.int .i64 0, .int .i64 0, .int .i64 0, .int .i64 0, .slice none 0 0]), 5) := by kernel_rfl
theorem Tryd.info85b : (Tryd.prog.info? 85).map (fun i => i.bytes) = some 56 := by kernel_rfl
def Bs.cells (s : Bs) : Array Value := bcells s.b s.a s.cap
/-- Batches as cells. -/
def bcv (ss : List Bs) : List Value := (ss.map fun s => s.cells.toList).flatten
theorem bcells_len (s : Bs) : s.cells.toList.length = 5 := rfl
theorem bcv_cons (s : Bs) (ss : List Bs) : bcv (s :: ss) = s.cells.toList ++ bcv ss := rfl
theorem bcv_app (a b : List Bs) : bcv (a ++ b) = bcv a ++ bcv b := by simp [bcv]
theorem bcv_len (ss : List Bs) : (bcv ss).length = ss.length * 5 := by
  induction ss with
  | nil => rfl
  | cons r t ih => rw [bcv_cons, List.length_append, bcells_len, ih, List.length_cons]; omega
theorem bcv_get (ss : List Bs) (i j : Nat) (hi : i < ss.length) (hj : j < 5) : (bcv ss)[i * 5 + j]? = (ss.getD i bsz).cells[j]? := by
  induction ss generalizing i with
  | nil => simp at hi
  | cons r t ih =>
    rw [bcv_cons]
    cases i with
    | zero =>
      rw [List.getElem?_append_left (by rw [bcells_len]; omega)]
      simp
    | succ i =>
      rw [List.getElem?_append_right (by rw [bcells_len]; omega), bcells_len, show (i + 1) * 5 + j - 5 = i * 5 + j by omega, ih i (by simpa using hi)]
      rfl
theorem bcv_one (ss : List Bs) : ∀ u, u ∈ bcv ss → u.oneCell' = true := by
  intro u hu
  simp only [bcv, List.mem_flatten, List.mem_map] at hu
  obtain ⟨l, ⟨r, _, rfl⟩, hu⟩ := hu
  simp only [Bs.cells, bcells, List.mem_cons, List.not_mem_nil, or_false] at hu
  rcases hu with rfl | rfl | rfl | rfl | rfl <;> rfl
theorem brow_news {w : World} {ad : Addr} {ss : List Bs} (h : BCells w (some ad) ss) : ∀ j u, (bcv ss)[j]? = some u → w.cell? (ad.add j) = some u := by
  intro j u hj
  have hjl : j < ss.length * 5 := by
    have := (List.getElem?_eq_some_iff.1 hj).1
    rwa [bcv_len] at this
  obtain ⟨b, off, e, z0, z1, z2, z3, z4⟩ := h (j / 5) (by omega)
  injection e with e
  subst e
  have hd : j = j / 5 * 5 + j % 5 := by omega
  have hm : j % 5 < 5 := Nat.mod_lt _ (by decide)
  rw [hd, bcv_get ss (j / 5) (j % 5) (by omega) hm] at hj
  rw [Addr.add_lit, hd, ← Nat.add_assoc]
  generalize j / 5 = i at *
  generalize j % 5 = k at *
  match k, hm with
  | 0, _ => rw [Nat.add_zero, z0]; exact hj
  | 1, _ => rw [z1]; exact hj
  | 2, _ => rw [z2]; exact hj
  | 3, _ => rw [z3]; exact hj
  | 4, _ => rw [z4]; exact hj
/-- A row of the call's own can be read. -/
theorem owns_brow {w : World} {B : Nat} {v : Value} {ss : List Bs} (h : w.ownsRow B 85 5 v ss.length (bcv ss)) : ∃ a c, v = .slice a ss.length c ∧ BCells w a ss := by
  rcases h.2 with ⟨rfl, h0⟩ | ⟨g, cap, cur, rfl, hB, hg, hle, hm, _, _⟩
  · exact ⟨none, 0, by rw [h0], fun i hi => by omega⟩
  · refine ⟨_, cap, rfl, ?_⟩
    intro i hi
    have hc := fun j hj u hu => h.cells (g := g) rfl (i * 5 + j) u ((bcv_get ss i j hi hj).trans hu)
    refine ⟨g, 0, rfl, ?_, ?_, ?_, ?_, ?_⟩
    · have := hc 0 (by decide) (.int .i64 (ss.getD i bsz).b.base) rfl
      simpa only [Addr.add_lit, Nat.zero_add, Nat.add_zero] using this
    · have := hc 1 (by decide) (.int .i64 (ss.getD i bsz).b.span) rfl
      simpa only [Addr.add_lit, Nat.zero_add, Nat.add_zero] using this
    · have := hc 2 (by decide) (.int .i64 (ss.getD i bsz).b.prod) rfl
      simpa only [Addr.add_lit, Nat.zero_add, Nat.add_zero] using this
    · have := hc 3 (by decide) (.int .i64 (ss.getD i bsz).b.seq) rfl
      simpa only [Addr.add_lit, Nat.zero_add, Nat.add_zero] using this
    · have := hc 4 (by decide) (.slice (ss.getD i bsz).a (ss.getD i bsz).b.rs.length (ss.getD i bsz).cap) rfl
      simpa only [Addr.add_lit, Nat.zero_add, Nat.add_zero] using this
theorem brow_new (w : World) (s : Bs) : BCells (w.alloc (.cells s.cells 85)) (some ⟨w.heap.size, 0, none⟩) [s] := by
  have hc : ∀ j, (w.alloc (.cells s.cells 85)).cell? ⟨w.heap.size, j, none⟩ = s.cells[j]? := fun j => cell_of_row _ w.heap.size j s.cells 85 (0, 0) (heap_alloc_new w _)
  intro i hi
  obtain rfl : i = 0 := by simpa using hi
  exact ⟨w.heap.size, 0, rfl, hc 0, hc 1, hc 2, hc 3, hc 4⟩
theorem wpList_append_bats {w : World} {ops : Array Oper} {rest : List Oper} {o : Oper} {a : Act} {Q : Exit → Act → World → Prop} (hw : Region.wanted o (yielded ops a.tmps) = true) (s x : Operand)
    (ho : o.op = .call { callee := .builtin .append, args := #[s, x], argTypes := #[38, 38] }) (B : Nat) (w0 : World)
    (v : Value) (n : Nat) (xs : List Value) (hs : a.eval s = v) (hown : w.ownsRow B 85 5 v n xs) (hB : Below B w0 w) (hBs : B ≤ w.heap.size)
    (ad : Addr) (cap : Nat) (ss : List Bs) (hx : a.eval x = .slice (some ad) ss.length cap) (hr : BCells w (some ad) ss) (h63 : n + ss.length ≤ 100000)
    (h : ∀ v' w', w'.ownsRow B 85 5 v' (n + ss.length) (xs ++ bcv ss) → Below B w0 w' → w.grownBy w' v.ownBlock → wpList Tryd.prog ops Q rest (a.put o.dst v') w') : wpList Tryd.prog ops Q (o :: rest) a w := by
  have hi0 := Tryd.info85z
  have hb0 := Tryd.info85b
  obtain ⟨i0, hi⟩ : ∃ i0, Tryd.prog.info? 85 = some i0 := by
    cases e : Tryd.prog.info? 85 with
    | none => rw [e] at hi0; cases hi0
    | some i => exact ⟨i, rfl⟩
  rw [hi] at hi0 hb0
  simp only [Option.map_some, Option.some.injEq, Prod.mk.injEq] at hi0 hb0
  refine BigFrame.wpList_want hw fun K hK => ?_
  refine wp_append_own w s x 38 ho B 85 i0 (.agg #[.int .i64 0, .int .i64 0, .int .i64 0, .int .i64 0, .slice none 0 0]) 5 56 Tryd.underlying38 hi hi0.1 hi0.2 hb0 rfl (by decide) v n xs hs hown ad ss.length cap (bcv ss) hx (bcv_len ss) (brow_news hr) (bcv_one _) (by unfold maxLen; omega) (by omega) hBs ?_
  intro v' w' h2 h3 _
  exact hK _ _ (h v' w' h2 (hB.grown h3 hBs (fun k hk => (hown.lt k hk).1)) h3)
theorem wpList_append_rowg {w : World} {ops : Array Oper} {rest : List Oper} {o : Oper} {a : Act} {Q : Exit → Act → World → Prop} (hw : Region.wanted o (yielded ops a.tmps) = true) (s x : Operand)
    (ho : o.op = .call { callee := .builtin .append, args := #[s, x], argTypes := #[29, 29] }) (B : Nat) (w0 : World)
    (v : Value) (n : Nat) (xs : List Value) (hs : a.eval s = v) (hown : w.ownsRow B 5 1 v n xs) (hB : Below B w0 w) (hBs : B ≤ w.heap.size)
    (ad : Addr) (cap : Nat) (l : List Nat) (hx : a.eval x = .slice (some ad) l.length cap) (hr : Row w (some ad) l) (h63 : n + l.length ≤ 1000000)
    (h : ∀ v' w', w'.ownsRow B 5 1 v' (n + l.length) (xs ++ cv l) → Below B w0 w' → w.grownBy w' v.ownBlock → wpList Tryd.prog ops Q rest (a.put o.dst v') w') : wpList Tryd.prog ops Q (o :: rest) a w := by
  obtain ⟨i0, hi, hz0, hz1, hz2⟩ := info_parts Tryd.info5
  refine BigFrame.wpList_want hw fun K hK => ?_
  refine wp_append_own w s x 29 ho B 5 i0 (.int .u8 0) 1 1 Tryd.underlying29 hi hz0 hz1 hz2 rfl (by decide) v n xs hs hown ad l.length cap (cv l) hx (by rw [cv_length]; omega) (row_news hr) (cv_one _) (by unfold maxLen; omega) (by omega) hBs ?_
  intro v' w' h2 h3 _
  exact hK _ _ (h v' w' h2 (hB.grown h3 hBs (fun k hk => (hown.lt k hk).1)) h3)
/-- A row of bytes and a row of batches lie apart. -/
theorem ob_ne {w : World} {B B' n n' : Nat} {v v' : Value} {xs xs' : List Value} (h : w.ownsRow B 5 1 v n xs) (h' : w.ownsRow B' 85 5 v' n' xs') : (v'.ownBlock = none ∨ v'.ownBlock ≠ v.ownBlock) ∧ (v.ownBlock = none ∨ v.ownBlock ≠ v'.ownBlock) := by
  rcases h.2 with ⟨rfl, _⟩ | ⟨g, cap, cur, rfl, _, hg, _⟩
  · rcases h'.2 with ⟨rfl, _⟩ | ⟨g', cap', cur', rfl, _, hg', _⟩
    · exact ⟨.inl rfl, .inl rfl⟩
    · exact ⟨.inr (by simp [Value.ownBlock]), .inl rfl⟩
  · rcases h'.2 with ⟨rfl, _⟩ | ⟨g', cap', cur', rfl, _, hg', _⟩
    · exact ⟨.inl rfl, .inr (by simp [Value.ownBlock])⟩
    · have hne : g ≠ g' := by
        rintro rfl
        rw [hg] at hg'
        simp at hg'
      exact ⟨.inr (by simpa [Value.ownBlock] using Ne.symm hne), .inr (by simpa [Value.ownBlock] using hne)⟩
theorem owns_full {w : World} {B : Nat} {v : Value} {l : List Nat} (h : w.ownsRow B 5 1 v l.length (cv l)) (hb : ∀ i, l.getD i 0 < 256) : ∃ a c, v = .slice a l.length c ∧ Row w a l ∧ l.length ≤ c ∧ c ≤ maxLen := by
  rcases h.2 with ⟨rfl, h0⟩ | ⟨g, cap, cur, rfl, hB, hg, hle, hm, _, _⟩
  · exact ⟨none, 0, by rw [h0], fun i hi => by omega, by omega, by unfold maxLen; omega⟩
  · refine ⟨_, cap, rfl, ?_, hle, hm⟩
    intro i hi
    refine ⟨g, 0, rfl, ?_, hb i⟩
    have := h.cells (g := g) rfl i _ (cv_get l i hi)
    simpa [Addr.add_lit] using this
end Go.Proofs.YtaooidckmepdeaaDoor
