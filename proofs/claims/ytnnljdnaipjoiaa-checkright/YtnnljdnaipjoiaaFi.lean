/- A right row of fetches, and what is turned wrong in it, as functions; Round. -/
import Derived.Test.YtnnljdnaipjoiaaTw
namespace Go.Proofs.Ytnnljdnaipjoiaa
set_option linter.unusedSimpArgs false
set_option linter.unusedVariables false
open Go.RowKit Go.MapKept
def fstr (i : Nat) : ByteArray := ⟨#[UInt8.ofNat (97 + i % 26)]⟩
def frc (i : Nat) : Rc := ⟨false, ⟨#[]⟩, true, fstr i, 0, 0⟩
def fb (i : Nat) : Ba := ⟨i, 1, 5, i, [frc i]⟩
def fl (n : Nat) : List Ba := (List.range n).map fb
def ft : PK := (⟨#[116]⟩, 1)
def f1 (n : Nat) : LS := (saw ls0 ft 0 n 0 (fl n)).2
def f2 (n : Nat) : LS := (saw (f1 n) ft 0 n 0 (fl n)).2
def fswap (n : Nat) : List Ba := ((fl n).set 0 (fb 1)).set 1 (fb 0)
def fother (n : Nat) : List Ba := (fl n).set 1 (ob 1 other')
  where other' : ByteArray := ⟨#[111, 116, 104, 101, 114]⟩
def fz (n : Nat) : Ba := ⟨n, 1, 5, 0, [⟨false, ⟨#[]⟩, true, ⟨#[122]⟩, 0, 0⟩]⟩
def f3 (n : Nat) : LS := (saw (f2 n) ft 0 (n + 1) n [fz n]).2
theorem fin_all {P : Nat → Bool} (h : ∀ n : Fin 31, P n.val = true) (n : Nat) (hn : n ≤ 30) : P n = true := h ⟨n, by omega⟩
theorem ff1 : ∀ n : Fin 31, (saw ls0 ft 0 n.val 0 (fl n.val)).1 = 0 := by decide +kernel
theorem ff2 : ∀ n : Fin 31, (saw (f1 n.val) ft 0 n.val 0 (fl n.val)).1 = 0 := by decide +kernel
theorem fc0 : ∀ n : Fin 31, 2 ≤ n.val → (saw (f2 n.val) ft 0 ((n.val : Int) - 1) 0 []).1 = 1 := by decide +kernel
theorem fc1 : ∀ n : Fin 31, 2 ≤ n.val → (saw (f2 n.val) ft ((n.val : Int) + 1) n.val 0 []).1 = 1 := by decide +kernel
theorem fc2 : ∀ n : Fin 31, 2 ≤ n.val → (saw (f2 n.val) ft 0 n.val 0 (fswap n.val)).1 = 2 := by decide +kernel
theorem fc3 : ∀ n : Fin 31, 2 ≤ n.val → (saw (f2 n.val) ft 0 n.val 1 (fl n.val)).1 = 2 := by decide +kernel
theorem fc4 : ∀ n : Fin 31, 2 ≤ n.val → (saw (f2 n.val) ft 0 n.val 0 (fother n.val)).1 = 3 := by decide +kernel
theorem fc5 : ∀ n : Fin 31, 2 ≤ n.val → (saw (f2 n.val) ft 0 ((n.val : Int) + 1) n.val [fz n.val]).1 = 4 := by decide +kernel
theorem fc6 : ∀ n : Fin 31, 2 ≤ n.val → (saw (f3 n.val) ft 0 n.val 0 (fl n.val)).1 = 0 := by decide +kernel
theorem fl_len (n : Nat) : (fl n).length = n := by simp [fl]
theorem fl_get (n i : Nat) (h : i < n) : (fl n).getD i baz = fb i := by simp [fl, List.getD, h]
theorem fb_ok (i : Nat) (h : i ≤ 30) : BOk (fb i) := ⟨by simp only [fb]; omega, by simp only [fb]; omega, by simp [fb], by simp [fb], fun r hr => by
  simp only [fb, List.mem_singleton] at hr
  subst hr
  exact ⟨by simp [frc], by simp [frc, fb], (by show (⟨#[]⟩ : ByteArray).size ≤ 20000; decide), (by show (1 : Nat) ≤ 20000; decide)⟩⟩
theorem fz_ok (n : Nat) (h : n ≤ 30) : BOk (fz n) := ⟨by simp only [fz]; omega, by simp only [fz]; omega, by simp [fz], by simp [fz], fun r hr => by
  simp only [fz, List.mem_singleton] at hr
  subst hr
  exact ⟨by simp, by simp [fz], (by show (⟨#[]⟩ : ByteArray).size ≤ 20000; decide), (by show (1 : Nat) ≤ 20000; decide)⟩⟩
/-- Blocks of cells that are no Log's stay. -/
def TKeep (y z : World) : Prop := ∀ (b : Nat) (cs : Array Value) (t : TypeId), y.heap[b]? = some (.cells cs t (0, 0)) → t ≠ 59 → z.heap[b]? = some (.cells cs t (0, 0))
theorem TKeep.of {y z : World} {p : Nat} {v1 v2 v3 : Option Nat} {S : LS} (h : LogIs y p v1 v2 v3 S) (k : Keeps (logE p v1 v2 v3) y z) : TKeep y z := fun b cs t hc ht => by
  have hlt := (Array.getElem?_eq_some_iff.1 hc).1
  have hn : b ∉ logE p v1 v2 v3 := fun hg => by
    rcases mem_logE.1 hg with rfl | e | e | e
    · rw [h.box] at hc; simp at hc; exact ht hc.2.symm
    · obtain ⟨es, c, hb⟩ := h.m1.isMap b e; rw [hb] at hc; cases hc
    · obtain ⟨es, c, hb⟩ := h.m2.isMap b e; rw [hb] at hc; cases hc
    · obtain ⟨es, c, hb⟩ := h.m3.isMap b e; rw [hb] at hc; cases hc
  rw [k.block b hlt hn]
  exact hc
theorem awk_sawT {B : Nat} {w0 y : World} {p : Nat} {S : LS} (h : AwK B w0 p S y) (tp : ByteArray) (pt st nx fr : Int) (a : Option Addr) (cap : Nat) (ss : List Bs) (hi : BIn y a ss) (ht : tp.size ≤ 281474976710656) :
    Calls Try.prog 11 #[.pointer (some ⟨p, 0, none⟩), .string tp, .int .i64 pt, .int .i64 st, .int .i64 nx, .int .i64 fr, .slice a ss.length cap] y fun e z => e = .returned (.int .i64 (saw S (tp, pt) st nx fr (bsOf ss)).1) ∧ AwK B w0 p (saw S (tp, pt) st nx fr (bsOf ss)).2 z ∧ TKeep y z := by
  obtain ⟨v1, v2, v3, h1, h2, h3, h4⟩ := h
  refine (saw_any p v1 v2 v3 S tp pt st nx fr a cap ss y h1 hi ht).mono fun e z ⟨u1, u2, u3, e1, e2, e3, e4⟩ => ⟨e1, ⟨u1, u2, u3, e2, fun b hb => ?_, h3.trans (e3.below h2 h4), Nat.le_trans h4 e3.size⟩, TKeep.of h1 e3⟩
  rcases e4 b hb with q | q
  · exact h2 b q
  · exact Nat.le_trans h4 q
theorem AwK.grown {B : Nat} {w0 y z : World} {p : Nat} {S : LS} {r : Option Nat} (h : AwK B w0 p S y) (hg : y.grownBy z r) (hr : ∀ b, r = some b → B ≤ b ∧ ∃ (cs : Array Value) (t : TypeId), y.heap[b]? = some (.cells cs t (0, 0)) ∧ t ≠ 59) : AwK B w0 p S z := by
  obtain ⟨v1, v2, v3, h1, h2, h3, h4⟩ := h
  have hne : ∀ b, b ∈ logE p v1 v2 v3 → some b ≠ r := fun b hb e => by
    obtain ⟨_, cs, t, hc, ht⟩ := hr b e.symm
    rcases mem_logE.1 hb with rfl | e | e | e
    · rw [h1.box] at hc; simp at hc; exact ht hc.2.symm
    · obtain ⟨es, c, hb⟩ := h1.m1.isMap b e; rw [hb] at hc; cases hc
    · obtain ⟨es, c, hb⟩ := h1.m2.isMap b e; rw [hb] at hc; cases hc
    · obtain ⟨es, c, hb⟩ := h1.m3.isMap b e; rw [hb] at hc; cases hc
  refine ⟨v1, v2, v3, ⟨(hg.block p h1.lt (hne p (mem_logE.2 (.inl rfl)))).trans h1.box, h1.m1.keep (fun b e => hg.block b (h1.m1.lt b e) (hne b (mem_logE.2 (.inr (.inl e))))), h1.m2.keep (fun b e => hg.block b (h1.m2.lt b e) (hne b (mem_logE.2 (.inr (.inr (.inl e)))))), h1.m3.keep (fun b e => hg.block b (h1.m3.lt b e) (hne b (mem_logE.2 (.inr (.inr (.inr e)))))), h1.d12, h1.d13, h1.d23⟩, h2, ?_, Nat.le_trans h4 hg.size⟩
  exact h3.grown hg h4 (fun b e => (hr b e).1)
theorem AwK.bel {B : Nat} {w0 y : World} {p : Nat} {S : LS} (h : AwK B w0 p S y) : Below B w0 y := by
  obtain ⟨v1, v2, v3, h1, h2, h3, h4⟩ := h
  exact h3
theorem AwK.sz {B : Nat} {w0 y : World} {p : Nat} {S : LS} (h : AwK B w0 p S y) : B ≤ y.heap.size := by
  obtain ⟨v1, v2, v3, h1, h2, h3, h4⟩ := h
  exact h4
theorem rrow_blk {w : World} {g : Nat} {r : Rc} (h : w.heap[g]? = some (.cells r.cells 48 (0, 0))) : RRow w (some ⟨g, 0, none⟩) [r] := by
  have hc : ∀ j, w.cell? ⟨g, j, none⟩ = r.cells[j]? := fun j => cell_of_row _ g j r.cells 48 (0, 0) h
  intro i hi
  obtain rfl : i = 0 := by simpa using hi
  exact ⟨g, 0, rfl, hc 0, hc 1, hc 2, hc 3, hc 4, hc 5⟩
/-- one, with the block of its record. -/
def OneB (w : World) (base : Int) (v : ByteArray) (e : Ending) (w' : World) : Prop :=
  ∃ g, e = .returned (.agg #[.int .i64 base, .int .i64 1, .int .i64 0, .int .i64 0, .slice (some ⟨g, 0, none⟩) 1 1]) ∧ w'.heap[g]? = some (.cells (Rc.mk false ⟨#[]⟩ true v 0 0).cells 48 (0, 0)) ∧ Below w.heap.size w w'
set_option maxRecDepth 100000 in
theorem one_blk (base : Int) (v : ByteArray) (w : World) : Calls Try.prog 22 #[.int .i64 base, .string v] w fun e w' => OneB w base v e w' := by
  go_enter Try.func22, Try.ntmps22
  go_wp2
  refine bodyPost_ret (v := .agg #[.int .i64 base, .int .i64 1, .int .i64 0, .int .i64 0, .slice (some ⟨w.heap.size + 1, 0, none⟩) 1 1]) (by simp [results, Try.results22, go_sem]) rfl ⟨w.heap.size + 1, rfl, ?_, (below_box _).trans ((below_box _).mono (by simp))⟩
  have := heap_alloc_new (w.alloc (.cells #[.int .i64 base, .int .i64 1, .int .i64 0, .int .i64 0, .slice (some ⟨w.heap.size + 1, 0, none⟩) 1 1] 61)) (.cells (Rc.mk false ⟨#[]⟩ true v 0 0).cells 48)
  rw [show (w.alloc (.cells #[.int .i64 base, .int .i64 1, .int .i64 0, .int .i64 0, .slice (some ⟨w.heap.size + 1, 0, none⟩) 1 1] 61)).heap.size = w.heap.size + 1 by simp] at this
  exact this
theorem round_any (k : Int) (n : Nat) (w : World) (h1 : -9223372036854775808 ≤ k) (h2 : k ≤ 9223372036854775807) (hn : 1 ≤ n) (hn2 : n ≤ 1000000) :
    Calls Try.prog 14 #[.int .i64 k, .int .i64 (n : Int)] w fun e w' => e = .returned (.int .i64 (((k % (n : Int)).toNat : Nat) : Int)) ∧ w' = w := by
  have hnI : (1 : Int) ≤ (n : Int) := by omega
  have hnJ : (n : Int) ≤ 1000000 := by omega
  have hn0 : ((n : Int) == 0) = false := by simp; omega
  have hne : (n : Int) ≠ 0 := by omega
  have e1 := Int.emod_nonneg k hne
  have e2 := Int.emod_lt_of_pos k (show 0 < (n : Int) by omega)
  have HE : Hid ((((k % (n : Int)).toNat : Nat) : Int) = k % (n : Int)) := by show _ = _; omega
  have HT : Hid (Int.tmod k (n : Int) = if 0 ≤ k ∨ k % (n : Int) = 0 then k % (n : Int) else k % (n : Int) - (n : Int)) := by
    show _ = _
    rw [Int.tmod_eq_emod]
    by_cases h : 0 ≤ k
    · simp [h]
    · by_cases hd : (n : Int) ∣ k
      · simp [hd, Int.emod_eq_zero_of_dvd hd]
      · have : ¬ k % (n : Int) = 0 := fun q => hd (Int.dvd_of_emod_eq_zero q)
        simp [h, hd, this]
  go_enter Try.func14, Try.ntmps14
  go_wp2
  · have h : k.tmod (n : Int) < 0 := by assumption
    have ht := HT.out
    go_ret
    refine ⟨retI ?_, rfl⟩
    rw [HE.out]
    generalize k.tmod (n : Int) = z at *
    generalize k % (n : Int) = y at *
    unfold wrap64
    split at ht <;> omega
  · have h : 0 ≤ k.tmod (n : Int) := by assumption
    have ht := HT.out
    go_ret
    refine ⟨retI ?_, rfl⟩
    rw [HE.out]
    generalize k.tmod (n : Int) = z at *
    generalize k % (n : Int) = y at *
    split at ht <;> omega
end Go.Proofs.Ytnnljdnaipjoiaa
