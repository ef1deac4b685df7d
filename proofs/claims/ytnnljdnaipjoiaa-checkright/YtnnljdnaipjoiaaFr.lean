/- CheckFinds: its rows. -/
import Derived.Test.YtnnljdnaipjoiaaFi
import Derived.Laws.BytesArg
namespace Go.Proofs.Ytnnljdnaipjoiaa
set_option linter.unusedSimpArgs false
set_option linter.unusedVariables false
open Go.RowKit
def strN (l : List Nat) : ByteArray := strOfNums (l.map fun (c : Nat) => (c : Int))
theorem conv_row {w : World} {a : Option Addr} {l : List Nat} (cap : Nat) (hr : Row w a l) : (convert 44 9 (.slice a l.length cap)).run Try.prog w = .ok (.string (strN l)) w := by
  by_cases h0 : 0 < l.length
  · obtain ⟨b, off, rfl, _, _⟩ := hr 0 h0
    refine run_convert_bytes_arg (P := Try.prog) w 44 5 Try.underlying44 Try.underlying5 b off l.length cap (l.map fun (c : Nat) => (c : Int)) (by simp) ?_ 9 Try.underlying9
    intro i hi
    obtain ⟨b', off', e, hc, _⟩ := hr i hi
    simp only [Option.some.injEq, Addr.mk.injEq, and_true] at e
    obtain ⟨rfl, rfl⟩ := e
    rw [hc]
    simp [List.getD, hi]
  · obtain rfl : l = [] := List.eq_nil_of_length_eq_zero (by omega)
    rw [run_convert_bytes_string w 44 9 5 _ _ cap Try.underlying44 Try.underlying5 Try.underlying9]
    cases a <;> simp [Conv.bytesToString, loadCells, strN, strOfNums]
    all_goals rfl
/-- The text of one letter, made of a row of one. -/
theorem conv_fstr (k : Nat) (y : World) : (convert 44 9 (.slice (some ⟨y.heap.size, 0, none⟩) 1 1)).run Try.prog (y.alloc (.cells #[.int .u8 (97 + (k : Int) % 26)] 5)) = .ok (.string (fstr k)) (y.alloc (.cells #[.int .u8 (97 + (k : Int) % 26)] 5)) := by
  have hv : (97 + (k : Int) % 26) = ((97 + k % 26 : Nat) : Int) := by omega
  have hr : Row (y.alloc (.cells #[.int .u8 (97 + (k : Int) % 26)] 5)) (some ⟨y.heap.size, 0, none⟩) [97 + k % 26] := by
    intro i hi
    obtain rfl : i = 0 := by simpa using hi
    refine ⟨y.heap.size, 0, rfl, ?_, by simp; omega⟩
    rw [hv]
    exact cell_of_row _ _ 0 _ _ _ (heap_alloc_new y _)
  have h := conv_row 1 hr
  have e : strN [97 + k % 26] = fstr k := rfl
  rw [e] at h
  exact h
/-- The batches made so far, and where their records lie. -/
structure FRow (w : World) (n : Nat) (ss : List Bs) : Prop where
  len : ss.length = n
  each : ∀ i, i < n → (ss.getD i bsz).b = fb i ∧ ∃ g, (ss.getD i bsz).a = some ⟨g, 0, none⟩ ∧ (ss.getD i bsz).cap = 1 ∧ w.heap[g]? = some (.cells (frc i).cells 48 (0, 0))
theorem FRow.nil (w : World) : FRow w 0 [] := ⟨rfl, fun i hi => by omega⟩
theorem FRow.below {w z : World} {n : Nat} {ss : List Bs} (h : FRow w n ss) (hb : Below w.heap.size w z) : FRow z n ss := ⟨h.len, fun i hi => by
  obtain ⟨h1, g, h2, h3, h4⟩ := h.each i hi
  exact ⟨h1, g, h2, h3, (hb.block g (Array.getElem?_eq_some_iff.1 h4).1).trans h4⟩⟩
theorem FRow.grown {w z : World} {n : Nat} {ss : List Bs} {r : Option Nat} (h : FRow w n ss) (hg : w.grownBy z r) (hr : ∀ b, r = some b → ∃ (cs : Array Value), w.heap[b]? = some (.cells cs 61 (0, 0))) : FRow z n ss := ⟨h.len, fun i hi => by
  obtain ⟨h1, g, h2, h3, h4⟩ := h.each i hi
  refine ⟨h1, g, h2, h3, (hg.block g (Array.getElem?_eq_some_iff.1 h4).1 (fun e => ?_)).trans h4⟩
  obtain ⟨cs, hc⟩ := hr g e.symm
  rw [h4] at hc
  simp at hc⟩
theorem FRow.tkeep {w z : World} {n : Nat} {ss : List Bs} (h : FRow w n ss) (ht : TKeep w z) : FRow z n ss := ⟨h.len, fun i hi => by
  obtain ⟨h1, g, h2, h3, h4⟩ := h.each i hi
  exact ⟨h1, g, h2, h3, ht g _ _ h4 (by decide)⟩⟩
theorem FRow.snoc {w : World} {n : Nat} {ss : List Bs} (h : FRow w n ss) {g : Nat} (hg : w.heap[g]? = some (.cells (frc n).cells 48 (0, 0))) : FRow w (n + 1) (ss ++ [Bs.mk (fb n) (some ⟨g, 0, none⟩) 1]) := ⟨by rw [List.length_append, h.len]; rfl, fun i hi => by
  by_cases e : i < n
  · have : (ss ++ [Bs.mk (fb n) (some ⟨g, 0, none⟩) 1]).getD i bsz = ss.getD i bsz := by simp [List.getD, List.getElem?_append, h.len, e]
    rw [this]; exact h.each i e
  · obtain rfl : i = n := by omega
    have : (ss ++ [Bs.mk (fb i) (some ⟨g, 0, none⟩) 1]).getD i bsz = Bs.mk (fb i) (some ⟨g, 0, none⟩) 1 := by simp [List.getD, ← h.len]
    rw [this]; exact ⟨rfl, g, rfl, rfl, hg⟩⟩
theorem FRow.bs {w : World} {n : Nat} {ss : List Bs} (h : FRow w n ss) : bsOf ss = fl n := by
  apply List.ext_getElem
  · rw [bsOf_len, h.len, fl_len]
  · intro i h1 h2
    rw [bsOf_len, h.len] at h1
    have e := (h.each i h1).1
    have hs : i < ss.length := by rw [h.len]; exact h1
    simp only [List.getD, List.getElem?_eq_getElem hs, Option.getD_some] at e
    simp [bsOf, fl, e]
theorem FRow.inn {w : World} {n : Nat} {ss : List Bs} (h : FRow w n ss) (hn : n ≤ 30) {a : Option Addr} (hc : BCells w a ss) : BIn w a ss := ⟨hc, fun i hi => by
  rw [h.len] at hi
  obtain ⟨h1, g, h2, h3, h4⟩ := h.each i hi
  rw [h1, h2]
  exact ⟨rrow_blk h4, one_max⟩, fun i hi => by
  rw [h.len] at hi
  rw [(h.each i hi).1]
  exact fb_ok i (by omega), by rw [h.len]; unfold maxLen; omega⟩
theorem own_blk {w : World} {B : Nat} {v : Value} {n : Nat} {xs : List Value} (h : w.ownsRow B 61 5 v n xs) : ∀ b, v.ownBlock = some b → B ≤ b ∧ ∃ (cs : Array Value) (t : TypeId), w.heap[b]? = some (.cells cs t (0, 0)) ∧ t ≠ 59 := by
  intro b e
  rcases h.2 with ⟨rfl, _⟩ | ⟨g, cap, cur, rfl, hB, hg, _⟩
  · cases e
  · simp only [Value.ownBlock, Option.map_some, Option.some.injEq] at e
    subst e
    exact ⟨hB, _, 61, hg, by decide⟩
theorem own_blk61 {w : World} {B : Nat} {v : Value} {n : Nat} {xs : List Value} (h : w.ownsRow B 61 5 v n xs) : ∀ b, v.ownBlock = some b → ∃ (cs : Array Value), w.heap[b]? = some (.cells cs 61 (0, 0)) := by
  intro b e
  rcases h.2 with ⟨rfl, _⟩ | ⟨g, cap, cur, rfl, hB, hg, _⟩
  · cases e
  · simp only [Value.ownBlock, Option.map_some, Option.some.injEq] at e
    subst e
    exact ⟨_, hg⟩
theorem own_bel61 {w w' : World} {B B' e size n : Nat} {v : Value} {xs : List Value} (h : w.ownsRow B e size v n xs) (hb : Below B' w w') (hB : w.heap.size ≤ B') : w'.ownsRow B e size v n xs := by
  refine ⟨h.1, ?_⟩
  rcases h.2 with q | ⟨g, cap, cur, e1, hB1, hg, r⟩
  · exact .inl q
  · exact .inr ⟨g, cap, cur, e1, hB1, (hb.block g (Nat.lt_of_lt_of_le (Array.getElem?_eq_some_iff.1 hg).1 hB)).trans hg, r⟩
theorem own_tk {w w' : World} {B n : Nat} {v : Value} {xs : List Value} (h : w.ownsRow B 61 5 v n xs) (ht : TKeep w w') : w'.ownsRow B 61 5 v n xs := by
  refine ⟨h.1, ?_⟩
  rcases h.2 with q | ⟨g, cap, cur, e1, hB1, hg, r⟩
  · exact .inl q
  · exact .inr ⟨g, cap, cur, e1, hB1, ht g _ _ hg (by decide), r⟩
/-- A row of batches of the call's own. -/
structure LRow (y : World) (B g c n : Nat) (ss : List Bs) : Prop where
  own : y.ownsRow B 61 5 (.slice (some ⟨g, 0, none⟩) n c) n (bcv ss)
  row : FRow y n ss
theorem LRow.tk {y z : World} {B g c n : Nat} {ss : List Bs} (h : LRow y B g c n ss) (ht : TKeep y z) : LRow z B g c n ss := ⟨own_tk h.own ht, h.row.tkeep ht⟩
theorem LRow.bel {y z : World} {B g c n : Nat} {ss : List Bs} (h : LRow y B g c n ss) (hb : Below y.heap.size y z) : LRow z B g c n ss := ⟨own_bel61 h.own hb (Nat.le_refl _), h.row.below hb⟩
theorem LRow.cells {y : World} {B g c n : Nat} {ss : List Bs} (h : LRow y B g c n ss) : BCells y (some ⟨g, 0, none⟩) ss := by
  obtain ⟨h1, h2⟩ := h
  obtain rfl := h2.len
  obtain ⟨a', c', e, hb⟩ := owns_brow h1
  simp only [Value.slice.injEq, true_and] at e
  obtain ⟨rfl, _⟩ := e
  exact hb
theorem LRow.inn {y : World} {B g c n : Nat} {ss : List Bs} (h : LRow y B g c n ss) (hn : n ≤ 30) : BIn y (some ⟨g, 0, none⟩) ss := h.row.inn hn h.cells
theorem LRow.blk {y : World} {B g c n : Nat} {ss : List Bs} (h : LRow y B g c n ss) : B ≤ g ∧ g < y.heap.size ∧ ∃ cs : Array Value, y.heap[g]? = some (.cells cs 61 (0, 0)) := by
  obtain ⟨h1, cs, t, h2, h3⟩ := own_blk h.own g rfl
  exact ⟨h1, (Array.getElem?_eq_some_iff.1 h2).1, own_blk61 h.own g rfl⟩
theorem LRow.form {y : World} {B n : Nat} {v : Value} {ss : List Bs} (h : y.ownsRow B 61 5 v n (bcv ss)) (hr : FRow y n ss) (h0 : 0 < n) : ∃ g c, v = .slice (some ⟨g, 0, none⟩) n c ∧ LRow y B g c n ss := by
  rcases h.2 with ⟨rfl, e⟩ | ⟨g, cap, cur, rfl, _⟩
  · omega
  · exact ⟨g, cap, rfl, h, hr⟩
theorem LRow.grown {y z : World} {B g c n : Nat} {ss : List Bs} {r : Option Nat} (h : LRow y B g c n ss) (hg : y.grownBy z r) (hr : ∀ b, r = some b → b ≠ g ∧ ∃ (cs : Array Value), y.heap[b]? = some (.cells cs 61 (0, 0))) : LRow z B g c n ss := by
  refine ⟨⟨h.own.1, ?_⟩, h.row.grown hg (fun b e => (hr b e).2)⟩
  rcases h.own.2 with q | ⟨g', cap, cur, e1, hB1, hg', r'⟩
  · exact .inl q
  · refine .inr ⟨g', cap, cur, e1, hB1, (hg.block g' (Array.getElem?_eq_some_iff.1 hg').1 (fun e => ?_)).trans hg', r'⟩
    simp only [Value.slice.injEq, Option.some.injEq, Addr.mk.injEq, true_and, and_true] at e1
    exact (hr g' e.symm).1 e1.1.symm
theorem tsz : (⟨#[116]⟩ : ByteArray).size ≤ 281474976710656 := by decide
/-- One fetch of the partition, with what it tells. -/
theorem step_saw {B : Nat} {w0 y : World} {p : Nat} {S : LS} (h : AwK B w0 p S y) {a : Option Addr} {cap m : Nat} {ss : List Bs} {L : List Ba} (hb : BIn y a ss) (hm : ss.length = m) (hL : bsOf ss = L) (st nx fr code : Int) (hc : (saw S ft st nx fr L).1 = code) :
    Calls Try.prog 11 #[.pointer (some ⟨p, 0, none⟩), .string ⟨#[116]⟩, .int .i64 1, .int .i64 st, .int .i64 nx, .int .i64 fr, .slice a m cap] y fun e z => e = .returned (.int .i64 code) ∧ AwK B w0 p (saw S ft st nx fr L).2 z ∧ TKeep y z := by
  subst hm
  subst hL
  subst hc
  exact awk_sawT h ⟨#[116]⟩ 1 st nx fr a cap ss hb tsz
theorem bin_nil (y : World) : BIn y none [] := ⟨fun i hi => (by simp at hi), fun i hi => (by simp at hi), fun i hi => (by simp at hi), by unfold maxLen; simp⟩
/-- The row, copied. -/
theorem x_hown (y : World) : (y.alloc (.cells #[] 61)).ownsRow y.heap.size 61 5 (.slice (some ⟨y.heap.size, 0, none⟩) 0 0) 0 [] := ⟨rfl, .inr ⟨y.heap.size, 0, #[], rfl, Nat.le_refl _, heap_alloc_new y _, Nat.le_refl _, by unfold maxLen; omega, rfl, rfl⟩⟩
theorem x_row {B n g c : Nat} {w0 y z : World} {v : Value} {p : Nat} {S : LS} {ss : List Bs} (hk : AwK B w0 p S y) (hl : LRow y B g c n ss) (hz : z.ownsRow y.heap.size 61 5 v (0 + ss.length) ([] ++ bcv ss)) (hg : (y.alloc (.cells #[] 61)).grownBy z (some y.heap.size)) (h0 : 2 ≤ n) :
    ∃ gx cx, v = .slice (some ⟨gx, 0, none⟩) n cx ∧ LRow z y.heap.size gx cx n ss ∧ LRow z B g c n ss ∧ AwK B w0 p S z ∧ B ≤ gx := by
  have hl2 := hl.row.len
  rw [Nat.zero_add, List.nil_append, hl2] at hz
  have hb : Below y.heap.size y (y.alloc (.cells #[] 61)) := below_box _
  have hn : ∀ b, some y.heap.size = some b → b ≠ g ∧ ∃ (cs : Array Value), (y.alloc (.cells #[] 61)).heap[b]? = some (.cells cs 61 (0, 0)) := fun b e => by
    injection e with e
    subst e
    exact ⟨fun e => by have := hl.blk.2.1; omega, _, heap_alloc_new y _⟩
  have h2 : LRow z B g c n ss := (hl.bel hb).grown hg hn
  obtain ⟨gx, cx, e, h3⟩ := LRow.form hz h2.row (by omega)
  exact ⟨gx, cx, e, h3, h2, (hk.below hb).grown hg (fun b e => ⟨(by injection e with e; subst e; exact hk.sz), _, 61, (hn b e).2.choose_spec, by decide⟩), Nat.le_trans hk.sz h3.blk.1⟩
theorem int_lt (k n : Nat) (h : (k : Int) < n) : k < n := by omega
end Go.Proofs.Ytnnljdnaipjoiaa
