/- The writer: natural, number, text. -/
import Derived.Test.YtaooidckmepdeaaDoorKa
import Derived.Test.YtaooidckmepdeaaDoorNw
namespace Go.Proofs.YtaooidckmepdeaaDoor
set_option linter.unusedSimpArgs false
set_option linter.unusedVariables false
open Go.RowKit
/-- Narrow to n bytes. -/
def narOk (n : Nat) (v : Int) : Bool := decide (0 ≤ v ∧ v < ((256 ^ n : Nat) : Int))
def narV (n : Nat) (v : Int) : Nat := if narOk n v = true then v.toNat else 0
theorem narV_le (n : Nat) (v : Int) (hn : n = 1 ∨ n = 2 ∨ n = 4) : narV n v ≤ 18446744073709551615 := by
  unfold narV narOk
  split
  · rename_i h
    simp only [decide_eq_true_eq] at h
    rcases hn with rfl | rfl | rfl <;> omega
  · omega
theorem nar_eNat (n : Nat) (v : Int) : eNat n v = if narOk n v = true then some (lay n (narV n v)) else none := by
  unfold eNat narV narOk
  by_cases h : 0 ≤ v ∧ v < ((256 ^ n : Nat) : Int)
  · rw [if_pos h, decide_eq_true h]; rfl
  · rw [if_neg h, decide_eq_false h]; rfl
theorem nar_of (n : Nat) (v : Int) (hn : n = 1 ∨ n = 2 ∨ n = 4) (Z : Int) (hZ : Z = 8 * (n : Int)) : narrowB v Z false = narOk n v ∧ narrowV v Z false = ((narV n v : Nat) : Int) := by
  have h1 : narrowB v Z false = narOk n v := by
    rcases hn with rfl | rfl | rfl <;> subst hZ <;> simp [narrowB, narOk, fitsIn]
  refine ⟨h1, ?_⟩
  unfold narrowV narV
  rw [h1]
  split
  · rename_i h
    simp only [narOk, decide_eq_true_eq] at h
    rcases hn with rfl | rfl | rfl <;> subst hZ <;> simp <;> omega
  · rfl
theorem nar_call (n : Nat) (v : Int) (hn : n = 1 ∨ n = 2 ∨ n = 4) (Z : Int) (hZ : Z = 8 * (n : Int)) (hv : In64 v) (w : World) :
    Calls Tryd.prog 40 #[.int .i64 v, .int .i64 Z, .bool false] w fun e w' => e = .returned (.tuple #[.int .u64 ((narV n v : Nat) : Int), .bool (narOk n v)]) ∧ w' = w := by
  have := narrow_any v Z false w hv.1 hv.2
  rw [(nar_of n v hn Z hZ).1, (nar_of n v hn Z hZ).2] at this
  exact this
theorem WrS.open {w0 w : World} {st : Ls} {N : Nat} (h : WrS w0 w st N) : ∃ a n c, w.cell? ⟨w0.heap.size, 0, none⟩ = some (.slice a n c) ∧ w.cell? ⟨w0.heap.size, 1, none⟩ = some (.bool st.isNone) ∧ w.frozen? ⟨w0.heap.size, 0, none⟩ = false ∧ w.frozen? ⟨w0.heap.size, 1, none⟩ = false ∧ w0.heap.size < w.heap.size := by
  obtain ⟨v, l, hx, ho, _⟩ := h.ex
  obtain ⟨a, c, rfl⟩ := own_slice ho
  exact ⟨a, l.length, c, (box_at hx 0).1, (box_at hx 1).1, (box_at hx 0).2, (box_at hx 1).2, (Array.getElem?_eq_some_iff.1 hx).1⟩
set_option maxHeartbeats 800000 in
set_option maxRecDepth 100000 in
theorem wnat_in (w0 w : World) (st st1 : Ls) (N n V : Nat) (Z K v : Int) (bad ok : Bool) (hb : bad = st.isNone) (h1 : (bad || !ok) = st1.isNone) (hst : ∀ L, st1 = some L → st = some L) (hK : IntKind.i64.wrap (8 * Z) = K) (h : WrS w0 w st N)
    (HN : Hid (∀ x, Calls Tryd.prog 40 #[.int .i64 v, .int .i64 K, .bool false] x fun e w' => e = .returned (.tuple #[.int .u64 (V : Int), .bool ok]) ∧ w' = x))
    (HP : Hid (∀ x, WrS w0 x st1 N → Calls Tryd.prog 41 #[.pointer (some ⟨w0.heap.size, 0, none⟩), .int .i64 Z, .int .u64 (V : Int)] x (WP w0 x (oa st1 (some (lay n V))) (N + 8)))) :
    Calls Tryd.prog 23 #[.pointer (some ⟨w0.heap.size, 0, none⟩), .int .i64 Z, .int .i64 v] w (WP w0 w (oa st1 (some (lay n V))) (N + 8)) := by
  obtain ⟨a, m, c, c0, c1, f0, f1, hz⟩ := h.open
  rw [← hb] at c1
  have HS : Hid _ := h.setBad st1 (bad || !ok) h1 hst
  clear h h1 hst hb
  generalize oa st1 (some (lay n V)) = st2 at *
  cases bad <;> cases ok
  all_goals
    simp only [Bool.not_true, Bool.not_false, Bool.or_true, Bool.or_false, Bool.true_or, Bool.false_or] at HS
    go_enter Tryd.func23, Tryd.ntmps23
    go_wp2_with (first
      | (go_at_call 40; refine (HN.out _).mono ?_; rintro e w1 ⟨rfl, rfl⟩)
      | (go_at_call 41; refine (HP.out _ HS.out.1).mono ?_; rintro e w2 ⟨rfl, hw2, hk2⟩))
    go_end0
    exact ⟨rfl, hw2, HS.out.2.trans hk2⟩
theorem wnat_any (w0 w : World) (st : Ls) (N n : Nat) (Z v : Int) (hZ : Z = n) (hn : n = 1 ∨ n = 2 ∨ n = 4) (hv : In64 v) (hN : N ≤ 900000000000) (h : WrS w0 w st N) :
    Calls Tryd.prog 23 #[.pointer (some ⟨w0.heap.size, 0, none⟩), .int .i64 Z, .int .i64 v] w (WP w0 w (oa st (eNat n v)) (N + 8)) := by
  have hK : IntKind.i64.wrap (8 * Z) = 8 * (n : Int) := by rw [IntKind.wrap_i64]; omega
  have HN : Hid (∀ x, Calls Tryd.prog 40 #[.int .i64 v, .int .i64 (8 * (n : Int)), .bool false] x fun e w' => e = .returned (.tuple #[.int .u64 ((narV n v : Nat) : Int), .bool (narOk n v)]) ∧ w' = x) := fun x => nar_call n v hn _ rfl hv x
  have HP : Hid (∀ st1 x, WrS w0 x st1 N → Calls Tryd.prog 41 #[.pointer (some ⟨w0.heap.size, 0, none⟩), .int .i64 Z, .int .u64 ((narV n v : Nat) : Int)] x (WP w0 x (oa st1 (some (lay n (narV n v)))) (N + 8))) := fun st1 x hx => wput_any w0 x st1 N n (narV n v) Z hZ hx (by omega) (narV_le n v hn) hN
  rw [nar_eNat]
  cases hok : narOk n v with
  | true =>
    rw [hok] at HN
    simp only [if_true]
    exact wnat_in w0 w st st N n _ Z _ v st.isNone true rfl (by simp) (fun _ e => e) hK h HN (fun x hx => HP.out st x hx)
  | false =>
    rw [hok] at HN
    simp only [Bool.false_eq_true, if_false, oa_none]
    exact wnat_in w0 w st none N n _ Z _ v st.isNone false rfl (by simp) (fun _ e => by cases e) hK h HN (fun x hx => HP.out none x hx)
theorem u64_un (v : Int) : IntKind.u64.wrap v = ((un v : Nat) : Int) := by
  rw [IntKind.wrap_u64]; unfold un; omega
set_option maxRecDepth 100000 in
theorem wnum_any (w0 w : World) (st : Ls) (N : Nat) (v : Int) (hN : N ≤ 900000000000) (h : WrS w0 w st N) :
    Calls Tryd.prog 56 #[.pointer (some ⟨w0.heap.size, 0, none⟩), .int .i64 v] w (WP w0 w (oa st (some (eInt v))) (N + 8)) := by
  have HP : Hid _ := wput_any w0 w st N 8 (un v) 8 rfl h (by omega) (by have := un_lt v; omega) hN
  have hu := u64_un v
  unfold eInt
  generalize oa st (some (lay 8 (un v))) = st2 at *
  generalize un v = u at *
  go_enter Tryd.func56, Tryd.ntmps56
  go_wp2_with (go_at_call 41; refine Calls.mono HP.out ?_; rintro e w2 ⟨rfl, hw2, hk2⟩)
  go_end0
  exact ⟨rfl, hw2, hk2⟩
set_option maxHeartbeats 800000 in
set_option maxRecDepth 100000 in
theorem wtext_any (w0 w : World) (st : Ls) (N : Nat) (s : ByteArray) (hs : s.size ≤ 9223372036854775807) (hN : N ≤ 800000000000) (h : WrS w0 w st N) :
    Calls Tryd.prog 57 #[.pointer (some ⟨w0.heap.size, 0, none⟩), .string s] w (WP w0 w (oa st (eText s)) (N + 65600)) := by
  have HP : Hid _ := wnat_any w0 w st N 2 2 (s.size : Int) rfl (by omega) ⟨by omega, by omega⟩ (by omega) h
  by_cases hl : s.size ≤ 65535
  · have e1 : eNat 2 (s.size : Int) = some (lay 2 s.size) := by unfold eNat; rw [if_pos ⟨by omega, by omega⟩, Int.toNat_natCast]
    have e2 : oa st (eText s) = oa (oa st (some (lay 2 s.size))) (some (sb s)) := by unfold eText; rw [if_pos hl, oa_assoc]; rfl
    rw [e1] at HP
    rw [e2]
    generalize oa st (some (lay 2 s.size)) = st1 at *
    have HLS : Hid ((sb s).length = s.size) := sb_len s
    have hlI : (s.size : Int) ≤ 65535 := by omega
    cases st1 with
    | none =>
      rw [none_oa]
      go_enter Tryd.func57, Tryd.ntmps57
      go_wp2_with (go_at_call 23; refine Calls.mono HP.out ?_; rintro e w1 ⟨rfl, hw1, hk1⟩; obtain ⟨a, m, c, c0, c1, f0, f1, hz⟩ := hw1.open; simp only [Option.isNone_none] at c1)
      go_end0
      exact ⟨rfl, hw1.mono (by omega), hk1⟩
    | some L1 =>
      go_enter Tryd.func57, Tryd.ntmps57
      go_wp2_with (first
        | (go_at_call 23; refine Calls.mono HP.out ?_; rintro e w1 ⟨rfl, hw1, hk1⟩; obtain ⟨⟨v, l, hx, ho, hbt, hl2, hs2⟩, bel⟩ := hw1; have HO : Hid (w1.ownsRow w0.heap.size 5 1 v l.length (cv l)) := ho; have HX : Hid (w1.heap[w0.heap.size]? = some (.cells #[v, .bool (some L1 : Ls).isNone] 60 (0, 0))) := hx; have HS : Hid (∀ L, some L1 = some L → l = L) := hs2; have HBL : Hid (Below w0.heap.size w0 w1) := bel; obtain ⟨a, c, rfl⟩ := own_slice ho; have c0 := (box_at hx 0).1; have c1 := (box_at hx 1).1; have f0 := (box_at hx 0).2; simp only [List.getElem?_toArray, List.getElem?_cons_zero, List.getElem?_cons_succ, Option.isNone_some] at c0 c1; clear ho hx hs2 bel)
        | (at_builtin; refine wpList_append_txt (by rfl) _ _ rfl w0.heap.size _ l rfl HO.out (HBL.out.size) s rfl (by omega) ?_; intro v' w2 ho2 hg2; obtain ⟨a2, c2, rfl⟩ := own_slice ho2; have HF : Hid _ := WrS.app (M := N + 65600) HX.out HO.out hbt hl2 HS.out HBL.out ho2 hg2 (sb_byt s) (by rw [HLS.out]; omega); have hq2 : Hid _ := (hg2.block w0.heap.size (Array.getElem?_eq_some_iff.1 HX.out).1 (fun e => own_box HO.out HX.out (by decide) _ e.symm rfl)).trans HX.out; have f2 := (box_at hq2.out 0).2; have d2 := (box_at hq2.out 0).1; simp only [List.getElem?_toArray, List.getElem?_cons_zero] at d2; clear ho2 hg2))
      go_end0
      have q := HF.out
      rw [List.length_append] at q
      exact ⟨rfl, q.1, hk1.trans q.2⟩
  · have e1 : eNat 2 (s.size : Int) = none := by unfold eNat; rw [if_neg (by omega)]
    have e2 : eText s = none := by unfold eText; rw [if_neg hl]
    rw [e1, oa_none] at HP
    rw [e2, oa_none]
    have hsI : (s.size : Int) ≤ 9223372036854775807 := by omega
    go_enter Tryd.func57, Tryd.ntmps57
    go_wp2_with (go_at_call 23; refine Calls.mono HP.out ?_; rintro e w1 ⟨rfl, hw1, hk1⟩; obtain ⟨a, m, c, c0, c1, f0, f1, hz⟩ := hw1.open; simp only [Option.isNone_none] at c1)
    go_end0
    exact ⟨rfl, hw1.mono (by omega), hk1⟩
end Go.Proofs.YtaooidckmepdeaaDoor
