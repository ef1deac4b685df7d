/- Records and batches: as values, rows of them. -/
import Derived.Test.YtnnljdnaipjoiaaMem
import Derived.Deep.Slices
import Derived.ChangeSlices
import Derived.SizedLaws
import Derived.WalkKit
import Derived.OpenShut
import Derived.ChangeSame
import Derived.Laws.AppendOwnNone
import Derived.WalkSpells
namespace Go.Proofs.Ytnnljdnaipjoiaa
set_option linter.unusedSimpArgs false
set_option linter.unusedVariables false
open Go.RowKit Go.ChangeShapes Go.WideShapes Go.ChangeAt
/-- A record. -/
structure Rc where
  hk : Bool
  k : ByteArray
  hv : Bool
  v : ByteArray
  t : Int
  o : Int
def Rc.cells (r : Rc) : Array Value := #[.bool r.hk, .string r.k, .bool r.hv, .string r.v, .int .i64 r.t, .int .i64 r.o]
theorem bcell {W w1 : World} (hb : Below W.heap.size W w1) : (∀ b o, b < W.heap.size → w1.cell? ⟨b, o, none⟩ = W.cell? ⟨b, o, none⟩) ∧ (∀ b o, b < W.heap.size → w1.frozen? ⟨b, o, none⟩ = W.frozen? ⟨b, o, none⟩) :=
  ⟨fun b o h => hb.cell (p := ⟨b, o, none⟩) h, fun b o h => hb.frozen (p := ⟨b, o, none⟩) h⟩
theorem below_box {w : World} (o : Obj) : Below w.heap.size w (w.alloc o) := (Below.refl _ _).alloc (Nat.le_refl _) _
def rz : Rc := ⟨false, ⟨#[]⟩, false, ⟨#[]⟩, 0, 0⟩
/-- A batch. -/
structure Ba where
  base : Int
  span : Int
  prod : Int
  seq : Int
  rs : List Rc
/-- As a value, its records at a. -/
def bav (b : Ba) (a : Option Addr) (cap : Nat) : Value := .agg #[.int .i64 b.base, .int .i64 b.span, .int .i64 b.prod, .int .i64 b.seq, .slice a b.rs.length cap]
/-- The slice's address leads to these records. -/
def RRow (w : World) (a : Option Addr) (rs : List Rc) : Prop :=
  ∀ i, i < rs.length → ∃ b off, a = some ⟨b, off, none⟩ ∧ w.cell? ⟨b, off + i * 6, none⟩ = some (.bool (rs.getD i rz).hk) ∧ w.cell? ⟨b, off + i * 6 + 1, none⟩ = some (.string (rs.getD i rz).k) ∧ w.cell? ⟨b, off + i * 6 + 2, none⟩ = some (.bool (rs.getD i rz).hv) ∧ w.cell? ⟨b, off + i * 6 + 3, none⟩ = some (.string (rs.getD i rz).v) ∧ w.cell? ⟨b, off + i * 6 + 4, none⟩ = some (.int .i64 (rs.getD i rz).t) ∧ w.cell? ⟨b, off + i * 6 + 5, none⟩ = some (.int .i64 (rs.getD i rz).o)
theorem RRow.below {w w' : World} {a : Option Addr} {rs : List Rc} (h : RRow w a rs) (hb : Below w.heap.size w w') : RRow w' a rs := by
  intro i hi
  obtain ⟨b, off, e, h0, h1, h2, h3, h4, h5⟩ := h i hi
  exact ⟨b, off, e, (hb.cell (World.block_lt_of_cell? _ _ h0)).trans h0, (hb.cell (World.block_lt_of_cell? _ _ h1)).trans h1, (hb.cell (World.block_lt_of_cell? _ _ h2)).trans h2, (hb.cell (World.block_lt_of_cell? _ _ h3)).trans h3, (hb.cell (World.block_lt_of_cell? _ _ h4)).trans h4, (hb.cell (World.block_lt_of_cell? _ _ h5)).trans h5⟩
theorem RRow.nil (w : World) (a : Option Addr) : RRow w a [] := by intro i hi; simp at hi
theorem cells48 : Try.prog.cellsOf 48 = 6 := by kernel_rfl
theorem cells3 : Try.prog.cellsOf 3 = 1 := by kernel_rfl
theorem cells4 : Try.prog.cellsOf 4 = 1 := by kernel_rfl
theorem cells9 : Try.prog.cellsOf 9 = 1 := by kernel_rfl
theorem cells50 : Try.prog.cellsOf 50 = 1 := by kernel_rfl
theorem cells61 : Try.prog.cellsOf 61 = 5 := by kernel_rfl
theorem list_of {α : Type} (dflt : α) (R : Nat → α → Prop) (L : Nat) (h : ∀ i, i < L → ∃ a, R i a) : ∃ l : List α, l.length = L ∧ ∀ i, i < L → R i (l.getD i dflt) := by
  induction L with
  | zero => exact ⟨[], rfl, fun i hi => by omega⟩
  | succ L ih =>
    obtain ⟨l, hl, hr⟩ := ih (fun i hi => h i (by omega))
    obtain ⟨a, ha⟩ := h L (by omega)
    refine ⟨l ++ [a], by simp [hl], fun i hi => ?_⟩
    by_cases e : i < L
    · have : (l ++ [a]).getD i dflt = l.getD i dflt := by simp [List.getD, List.getElem?_append, show i < l.length by omega]
      rw [this]; exact hr i e
    · obtain rfl : i = L := by omega
      have : (l ++ [a]).getD i dflt = a := by simp [List.getD, ← hl]
      rw [this]; exact ha
theorem Try.info48z : (Try.prog.info? 48).map (fun i => (i.zero, i.size)) = some (some (.agg rz.cells), 6) := by kernel_rfl
theorem Try.info48b : (Try.prog.info? 48).map (fun i => i.bytes) = some 64 := by kernel_rfl
/-- Records as cells. -/
def rcv (rs : List Rc) : List Value := (rs.map fun r => r.cells.toList).flatten
theorem cells_len (r : Rc) : r.cells.toList.length = 6 := rfl
theorem rcv_cons (r : Rc) (rs : List Rc) : rcv (r :: rs) = r.cells.toList ++ rcv rs := rfl
theorem rcv_app (a b : List Rc) : rcv (a ++ b) = rcv a ++ rcv b := by simp [rcv]
theorem rcv_len (rs : List Rc) : (rcv rs).length = rs.length * 6 := by
  induction rs with
  | nil => rfl
  | cons r t ih => rw [rcv_cons, List.length_append, cells_len, ih, List.length_cons]; omega
theorem rcv_get (rs : List Rc) (i j : Nat) (hi : i < rs.length) (hj : j < 6) : (rcv rs)[i * 6 + j]? = (rs.getD i rz).cells[j]? := by
  induction rs generalizing i with
  | nil => simp at hi
  | cons r t ih =>
    rw [rcv_cons]
    cases i with
    | zero =>
      rw [List.getElem?_append_left (by rw [cells_len]; omega)]
      simp
    | succ i =>
      rw [List.getElem?_append_right (by rw [cells_len]; omega), cells_len, show (i + 1) * 6 + j - 6 = i * 6 + j by omega, ih i (by simpa using hi)]
      rfl
theorem rcv_one (rs : List Rc) : ∀ u, u ∈ rcv rs → u.oneCell' = true := by
  intro u hu
  simp only [rcv, List.mem_flatten, List.mem_map] at hu
  obtain ⟨l, ⟨r, _, rfl⟩, hu⟩ := hu
  simp only [Rc.cells, List.mem_cons, List.not_mem_nil, or_false] at hu
  rcases hu with rfl | rfl | rfl | rfl | rfl | rfl <;> rfl
theorem rrow_news {w : World} {ad : Addr} {rs : List Rc} (h : RRow w (some ad) rs) : ∀ j u, (rcv rs)[j]? = some u → w.cell? (ad.add j) = some u := by
  intro j u hj
  have hjl : j < rs.length * 6 := by
    have := (List.getElem?_eq_some_iff.1 hj).1
    rwa [rcv_len] at this
  obtain ⟨b, off, e, z0, z1, z2, z3, z4, z5⟩ := h (j / 6) (by omega)
  injection e with e
  subst e
  have hd : j = j / 6 * 6 + j % 6 := by omega
  have hm : j % 6 < 6 := Nat.mod_lt _ (by decide)
  rw [hd, rcv_get rs (j / 6) (j % 6) (by omega) hm] at hj
  rw [Addr.add_lit, hd, ← Nat.add_assoc]
  generalize j / 6 = i at *
  generalize j % 6 = k at *
  match k, hm with
  | 0, _ => rw [Nat.add_zero, z0]; exact hj
  | 1, _ => rw [z1]; exact hj
  | 2, _ => rw [z2]; exact hj
  | 3, _ => rw [z3]; exact hj
  | 4, _ => rw [z4]; exact hj
  | 5, _ => rw [z5]; exact hj
theorem rrow_none {w : World} {rs : List Rc} (h : RRow w none rs) : rs = [] := by
  match rs, h with
  | [], _ => rfl
  | c :: r, h =>
    obtain ⟨_, _, e, _⟩ := h 0 (by simp)
    cases e
/-- A row of the call's own can be read. -/
theorem owns_rrow {w : World} {B : Nat} {v : Value} {rs : List Rc} (h : w.ownsRow B 48 6 v rs.length (rcv rs)) : ∃ a c, v = .slice a rs.length c ∧ RRow w a rs ∧ (a = none → c = 0) ∧ rs.length ≤ c ∧ c ≤ maxLen := by
  rcases h.2 with ⟨rfl, h0⟩ | ⟨g, cap, cur, rfl, hB, hg, hle, hm, _, _⟩
  · exact ⟨none, 0, by rw [h0], by rw [List.eq_nil_of_length_eq_zero h0]; exact RRow.nil _ _, fun _ => rfl, by omega, by unfold maxLen; omega⟩
  · refine ⟨_, cap, rfl, ?_, (fun c => by cases c), hle, hm⟩
    intro i hi
    have hc := fun j hj u hu => h.cells (g := g) rfl (i * 6 + j) u ((rcv_get rs i j hi hj).trans hu)
    refine ⟨g, 0, rfl, ?_, ?_, ?_, ?_, ?_, ?_⟩
    · have := hc 0 (by decide) (.bool (rs.getD i rz).hk) rfl
      simpa only [Addr.add_lit, Nat.zero_add, Nat.add_zero] using this
    · have := hc 1 (by decide) (.string (rs.getD i rz).k) rfl
      simpa only [Addr.add_lit, Nat.zero_add, Nat.add_zero] using this
    · have := hc 2 (by decide) (.bool (rs.getD i rz).hv) rfl
      simpa only [Addr.add_lit, Nat.zero_add, Nat.add_zero] using this
    · have := hc 3 (by decide) (.string (rs.getD i rz).v) rfl
      simpa only [Addr.add_lit, Nat.zero_add, Nat.add_zero] using this
    · have := hc 4 (by decide) (.int .i64 (rs.getD i rz).t) rfl
      simpa only [Addr.add_lit, Nat.zero_add, Nat.add_zero] using this
    · have := hc 5 (by decide) (.int .i64 (rs.getD i rz).o) rfl
      simpa only [Addr.add_lit, Nat.zero_add, Nat.add_zero] using this
theorem wpList_append_recs {w : World} {ops : Array Oper} {rest : List Oper} {o : Oper} {a : Act} {Q : Exit → Act → World → Prop} (hw : Region.wanted o (yielded ops a.tmps) = true) (s x : Operand)
    (ho : o.op = .call { callee := .builtin .append, args := #[s, x], argTypes := #[50, 50] }) (B : Nat) (w0 : World)
    (v : Value) (n : Nat) (xs : List Value) (hs : a.eval s = v) (hown : w.ownsRow B 48 6 v n xs) (hB : Below B w0 w) (hBs : B ≤ w.heap.size)
    (a' : Option Addr) (cap : Nat) (rs : List Rc) (hx : a.eval x = .slice a' rs.length cap) (hr : RRow w a' rs) (hn : a' = none → cap = 0) (h63 : n + rs.length ≤ 100000)
    (h : ∀ v' w', w'.ownsRow B 48 6 v' (n + rs.length) (xs ++ rcv rs) → Below B w0 w' → wpList Try.prog ops Q rest (a.put o.dst v') w') : wpList Try.prog ops Q (o :: rest) a w := by
  have hi0 := Try.info48z
  have hb0 := Try.info48b
  obtain ⟨i0, hi⟩ : ∃ i0, Try.prog.info? 48 = some i0 := by
    cases e : Try.prog.info? 48 with
    | none => rw [e] at hi0; cases hi0
    | some i => exact ⟨i, rfl⟩
  rw [hi] at hi0 hb0
  simp only [Option.map_some, Option.some.injEq, Prod.mk.injEq] at hi0 hb0
  cases a' with
  | none =>
    obtain rfl := rrow_none hr
    obtain rfl := hn rfl
    refine BigFrame.wpList_want hw fun K hK => ?_
    have hrun := run_append_owned_none (P := Try.prog) (w := w) B 50 o.type 48 i0 6 Try.underlying50 hi v n xs hown
    have h0 : wpList Try.prog ops Q rest (a.put o.dst v) w := h v w (by simpa [rcv] using hown) hB
    unfold Oper.wp
    simp [execOp, ho, resolve, invoke, builtin, hs, hx, hrun, Result.andThen]
    exact hK _ _ h0
  | some ad =>
    refine BigFrame.wpList_want hw fun K hK => ?_
    refine wp_append_own w s x 50 ho B 48 i0 (.agg rz.cells) 6 64 Try.underlying50 hi hi0.1 hi0.2 hb0 rfl (by decide) v n xs hs hown ad rs.length cap (rcv rs) hx (rcv_len rs) (rrow_news hr) (rcv_one _) (by unfold maxLen; omega) (by omega) hBs ?_
    intro v' w' h2 h3 _
    exact hK _ _ (h v' w' h2 (hB.grown h3 hBs (fun k hk => (hown.lt k hk).1)))
theorem wp_append_recs {w : World} {o : Oper} {a : Act} {K : Act → World → Prop} {Q : Exit → Act → World → Prop} (s x : Operand)
    (ho : o.op = .call { callee := .builtin .append, args := #[s, x], argTypes := #[50, 50] }) (B : Nat) (w0 : World)
    (v : Value) (n : Nat) (xs : List Value) (hs : a.eval s = v) (hown : w.ownsRow B 48 6 v n xs) (hB : Below B w0 w) (hBs : B ≤ w.heap.size)
    (ad : Addr) (cap : Nat) (rs : List Rc) (hx : a.eval x = .slice (some ad) rs.length cap) (hr : RRow w (some ad) rs) (h63 : n + rs.length ≤ 100000)
    (h : ∀ v' w', w'.ownsRow B 48 6 v' (n + rs.length) (xs ++ rcv rs) → Below B w0 w' → w.grownBy w' v.ownBlock → K (a.put o.dst v') w') : o.wp Try.prog a w K Q := by
  have hi0 := Try.info48z
  have hb0 := Try.info48b
  obtain ⟨i0, hi⟩ : ∃ i0, Try.prog.info? 48 = some i0 := by
    cases e : Try.prog.info? 48 with
    | none => rw [e] at hi0; cases hi0
    | some i => exact ⟨i, rfl⟩
  rw [hi] at hi0 hb0
  simp only [Option.map_some, Option.some.injEq, Prod.mk.injEq] at hi0 hb0
  refine wp_append_own w s x 50 ho B 48 i0 (.agg rz.cells) 6 64 Try.underlying50 hi hi0.1 hi0.2 hb0 rfl (by decide) v n xs hs hown ad rs.length cap (rcv rs) hx (rcv_len rs) (rrow_news hr) (rcv_one _) (by unfold maxLen; omega) (by omega) hBs ?_
  intro v' w' h2 h3 _
  exact h v' w' h2 (hB.grown h3 hBs (fun k hk => (hown.lt k hk).1)) h3
def bcells (b : Ba) (a : Option Addr) (cap : Nat) : Array Value := #[.int .i64 b.base, .int .i64 b.span, .int .i64 b.prod, .int .i64 b.seq, .slice a b.rs.length cap]
/-- A batch, and where its records lie. -/
structure Bs where
  b : Ba
  a : Option Addr
  cap : Nat
def bsz : Bs := ⟨⟨0, 0, 0, 0, []⟩, none, 0⟩
def BCells (w : World) (a : Option Addr) (ss : List Bs) : Prop :=
  ∀ i, i < ss.length → ∃ g off, a = some ⟨g, off, none⟩ ∧ w.cell? ⟨g, off + i * 5, none⟩ = some (.int .i64 (ss.getD i bsz).b.base) ∧ w.cell? ⟨g, off + i * 5 + 1, none⟩ = some (.int .i64 (ss.getD i bsz).b.span) ∧ w.cell? ⟨g, off + i * 5 + 2, none⟩ = some (.int .i64 (ss.getD i bsz).b.prod) ∧ w.cell? ⟨g, off + i * 5 + 3, none⟩ = some (.int .i64 (ss.getD i bsz).b.seq) ∧ w.cell? ⟨g, off + i * 5 + 4, none⟩ = some (.slice (ss.getD i bsz).a (ss.getD i bsz).b.rs.length (ss.getD i bsz).cap)
theorem BCells.below {w w' : World} {a : Option Addr} {ss : List Bs} (h : BCells w a ss) (hb : Below w.heap.size w w') : BCells w' a ss := by
  intro i hi
  obtain ⟨b, off, e, h0, h1, h2, h3, h4⟩ := h i hi
  exact ⟨b, off, e, (hb.cell (World.block_lt_of_cell? _ _ h0)).trans h0, (hb.cell (World.block_lt_of_cell? _ _ h1)).trans h1, (hb.cell (World.block_lt_of_cell? _ _ h2)).trans h2, (hb.cell (World.block_lt_of_cell? _ _ h3)).trans h3, (hb.cell (World.block_lt_of_cell? _ _ h4)).trans h4⟩
theorem Try.info61z : (Try.prog.info? 61).map (fun i => (i.zero, i.size)) = some (some (.agg #[.int .i64 0, .int .i64 0, .int .i64 0, .int .i64 0, .slice none 0 0]), 5) := by kernel_rfl
theorem Try.info61b : (Try.prog.info? 61).map (fun i => i.bytes) = some 56 := by kernel_rfl
def Bs.cells (s : Bs) : Array Value := bcells s.b s.a s.cap
/-- Batches as cells. -/
def bcv (ss : List Bs) : List Value := (ss.map fun s => s.cells.toList).flatten
theorem bcells_len (s : Bs) : s.cells.toList.length = 5 := rfl
theorem bcv_cons (s : Bs) (ss : List Bs) : bcv (s :: ss) = s.cells.toList ++ bcv ss := rfl
theorem bcv_app (a b : List Bs) : bcv (a ++ b) = bcv a ++ bcv b := by simp [bcv]
theorem bcv_len (ss : List Bs) : (bcv ss).length = ss.length * 5 := by
  induction ss with
  | nil => rfl
  | cons r t ih => rw [bcv_cons, List.length_append, bcells_len, ih, List.length_cons]; omega
theorem bcv_get (ss : List Bs) (i j : Nat) (hi : i < ss.length) (hj : j < 5) : (bcv ss)[i * 5 + j]? = (ss.getD i bsz).cells[j]? := by
  induction ss generalizing i with
  | nil => simp at hi
  | cons r t ih =>
    rw [bcv_cons]
    cases i with
    | zero =>
      rw [List.getElem?_append_left (by rw [bcells_len]; omega)]
      simp
    | succ i =>
      rw [List.getElem?_append_right (by rw [bcells_len]; omega), bcells_len, show (i + 1) * 5 + j - 5 = i * 5 + j by omega, ih i (by simpa using hi)]
      rfl
theorem bcv_one (ss : List Bs) : ∀ u, u ∈ bcv ss → u.oneCell' = true := by
  intro u hu
  simp only [bcv, List.mem_flatten, List.mem_map] at hu
  obtain ⟨l, ⟨r, _, rfl⟩, hu⟩ := hu
  simp only [Bs.cells, bcells, List.mem_cons, List.not_mem_nil, or_false] at hu
  rcases hu with rfl | rfl | rfl | rfl | rfl <;> rfl
theorem brow_news {w : World} {ad : Addr} {ss : List Bs} (h : BCells w (some ad) ss) : ∀ j u, (bcv ss)[j]? = some u → w.cell? (ad.add j) = some u := by
  intro j u hj
  have hjl : j < ss.length * 5 := by
    have := (List.getElem?_eq_some_iff.1 hj).1
    rwa [bcv_len] at this
  obtain ⟨b, off, e, z0, z1, z2, z3, z4⟩ := h (j / 5) (by omega)
  injection e with e
  subst e
  have hd : j = j / 5 * 5 + j % 5 := by omega
  have hm : j % 5 < 5 := Nat.mod_lt _ (by decide)
  rw [hd, bcv_get ss (j / 5) (j % 5) (by omega) hm] at hj
  rw [Addr.add_lit, hd, ← Nat.add_assoc]
  generalize j / 5 = i at *
  generalize j % 5 = k at *
  match k, hm with
  | 0, _ => rw [Nat.add_zero, z0]; exact hj
  | 1, _ => rw [z1]; exact hj
  | 2, _ => rw [z2]; exact hj
  | 3, _ => rw [z3]; exact hj
  | 4, _ => rw [z4]; exact hj
/-- A row of the call's own can be read. -/
theorem owns_brow {w : World} {B : Nat} {v : Value} {ss : List Bs} (h : w.ownsRow B 61 5 v ss.length (bcv ss)) : ∃ a c, v = .slice a ss.length c ∧ BCells w a ss := by
  rcases h.2 with ⟨rfl, h0⟩ | ⟨g, cap, cur, rfl, hB, hg, hle, hm, _, _⟩
  · exact ⟨none, 0, by rw [h0], fun i hi => by omega⟩
  · refine ⟨_, cap, rfl, ?_⟩
    intro i hi
    have hc := fun j hj u hu => h.cells (g := g) rfl (i * 5 + j) u ((bcv_get ss i j hi hj).trans hu)
    refine ⟨g, 0, rfl, ?_, ?_, ?_, ?_, ?_⟩
    · have := hc 0 (by decide) (.int .i64 (ss.getD i bsz).b.base) rfl
      simpa only [Addr.add_lit, Nat.zero_add, Nat.add_zero] using this
    · have := hc 1 (by decide) (.int .i64 (ss.getD i bsz).b.span) rfl
      simpa only [Addr.add_lit, Nat.zero_add, Nat.add_zero] using this
    · have := hc 2 (by decide) (.int .i64 (ss.getD i bsz).b.prod) rfl
      simpa only [Addr.add_lit, Nat.zero_add, Nat.add_zero] using this
    · have := hc 3 (by decide) (.int .i64 (ss.getD i bsz).b.seq) rfl
      simpa only [Addr.add_lit, Nat.zero_add, Nat.add_zero] using this
    · have := hc 4 (by decide) (.slice (ss.getD i bsz).a (ss.getD i bsz).b.rs.length (ss.getD i bsz).cap) rfl
      simpa only [Addr.add_lit, Nat.zero_add, Nat.add_zero] using this
theorem brow_new (w : World) (s : Bs) : BCells (w.alloc (.cells s.cells 61)) (some ⟨w.heap.size, 0, none⟩) [s] := by
  have hc : ∀ j, (w.alloc (.cells s.cells 61)).cell? ⟨w.heap.size, j, none⟩ = s.cells[j]? := fun j => cell_of_row _ w.heap.size j s.cells 61 (0, 0) (heap_alloc_new w _)
  intro i hi
  obtain rfl : i = 0 := by simpa using hi
  exact ⟨w.heap.size, 0, rfl, hc 0, hc 1, hc 2, hc 3, hc 4⟩
theorem wpList_append_bats {w : World} {ops : Array Oper} {rest : List Oper} {o : Oper} {a : Act} {Q : Exit → Act → World → Prop} (hw : Region.wanted o (yielded ops a.tmps) = true) (s x : Operand)
    (ho : o.op = .call { callee := .builtin .append, args := #[s, x], argTypes := #[33, 33] }) (B : Nat) (w0 : World)
    (v : Value) (n : Nat) (xs : List Value) (hs : a.eval s = v) (hown : w.ownsRow B 61 5 v n xs) (hB : Below B w0 w) (hBs : B ≤ w.heap.size)
    (ad : Addr) (cap : Nat) (ss : List Bs) (hx : a.eval x = .slice (some ad) ss.length cap) (hr : BCells w (some ad) ss) (h63 : n + ss.length ≤ 100000)
    (h : ∀ v' w', w'.ownsRow B 61 5 v' (n + ss.length) (xs ++ bcv ss) → Below B w0 w' → w.grownBy w' v.ownBlock → wpList Try.prog ops Q rest (a.put o.dst v') w') : wpList Try.prog ops Q (o :: rest) a w := by
  have hi0 := Try.info61z
  have hb0 := Try.info61b
  obtain ⟨i0, hi⟩ : ∃ i0, Try.prog.info? 61 = some i0 := by
    cases e : Try.prog.info? 61 with
    | none => rw [e] at hi0; cases hi0
    | some i => exact ⟨i, rfl⟩
  rw [hi] at hi0 hb0
  simp only [Option.map_some, Option.some.injEq, Prod.mk.injEq] at hi0 hb0
  refine BigFrame.wpList_want hw fun K hK => ?_
  refine wp_append_own w s x 33 ho B 61 i0 (.agg #[.int .i64 0, .int .i64 0, .int .i64 0, .int .i64 0, .slice none 0 0]) 5 56 Try.underlying33 hi hi0.1 hi0.2 hb0 rfl (by decide) v n xs hs hown ad ss.length cap (bcv ss) hx (bcv_len ss) (brow_news hr) (bcv_one _) (by unfold maxLen; omega) (by omega) hBs ?_
  intro v' w' h2 h3 _
  exact hK _ _ (h v' w' h2 (hB.grown h3 hBs (fun k hk => (hown.lt k hk).1)) h3)
end Go.Proofs.Ytnnljdnaipjoiaa
