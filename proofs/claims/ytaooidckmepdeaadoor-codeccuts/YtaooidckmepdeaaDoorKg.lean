/- The writer: a field, a row of fields. -/
import Derived.Test.YtaooidckmepdeaaDoorKf
namespace Go.Proofs.YtaooidckmepdeaaDoor
set_option linter.unusedSimpArgs false
set_option linter.unusedVariables false
open Go.RowKit
/-- A body whose rows lie in this memory. -/
structure BdOk (w : World) (b : Bd) (p : Pt) : Prop where
  tab : Tab w
  rs : RRow w p.ra (b 11).rs
  nm : SRow w p.na (b 17).nm
  ct : IRow w p.ca (b 18).ct
  bs : BRow w p.ba p.bs
  bb : p.bs.map (·.b) = (b 19).bs
  lr : (b 11).rs.length ≤ 100000
  ln : (b 17).nm.length ≤ 100000
  lc : (b 18).ct.length ≤ 100000
  lb : p.bs.length ≤ 100000
  rok : ∀ i, i < (b 11).rs.length → In64 ((b 11).rs.getD i rz).t ∧ ((b 11).rs.getD i rz).k.size ≤ 9223372036854775807 ∧ ((b 11).rs.getD i rz).v.size ≤ 9223372036854775807
  nok : ∀ i, i < (b 17).nm.length → ((b 17).nm.getD i ⟨#[]⟩).size ≤ 9223372036854775807
  tx : ∀ f, (b f).t.size ≤ 9223372036854775807
  fl : In64 (b 7).n
theorem BdOk.below {w w' : World} {b : Bd} {p : Pt} (h : BdOk w b p) (hb : Below w.heap.size w w') : BdOk w' b p :=
  ⟨h.tab.below hb, h.rs.below hb, h.nm.below hb, h.ct.below hb, ⟨h.bs.1.below hb, h.bs.2.below hb⟩, h.bb, h.lr, h.ln, h.lc, h.lb, h.rok, h.nok, h.tx, h.fl⟩
theorem BdOk.len {w : World} {b : Bd} {p : Pt} (h : BdOk w b p) : p.bs.length = (b 19).bs.length := by rw [← h.bb, List.length_map]
def CB : Nat := 14000000100
set_option maxHeartbeats 1600000 in
set_option maxRecDepth 100000 in
theorem lay_f (w0 w : World) (st : Ls) (N : Nat) (b : Bd) (p : Pt) (f : Nat) (hf : f < 20) (hN : N ≤ 100000000000) (hok : BdOk w0 b p) (h : WrS w0 w st N) :
    Calls Tryd.prog 43 #[.pointer (some ⟨w0.heap.size, 0, none⟩), .agg (bdc b p), .int .i64 (f : Int)] w (WP w0 w (oa st (eK (kd f) (b f))) (N + CB)) := by
  have HK : Hid (∀ x, Calls Tryd.prog 55 #[.int .i64 (f : Int)] x fun e w' => e = .returned (.int .i64 ((kd f : Nat) : Int)) ∧ w' = x) := fun x => kindOf_any f x
  have hx : (w.alloc (.cells (bdc b p) 66)).heap[w.heap.size]? = some (.cells (bdc b p) 66 (0, 0)) := heap_alloc_new w _
  obtain ⟨cn, ct, c0, c1, c2, c3, _⟩ := bdc_box hx
  have cnf := cn f hf
  have ctf := ct f hf
  have hfI : (f : Int) < 20 := by omega
  have h1 : WrS w0 (w.alloc (.cells (bdc b p) 66)) st N := h.below (below_box _)
  have HW : Hid (KeepT w0.heap.size w (w.alloc (.cells (bdc b p) 66))) := KeepT.of_below (below_box _)
  have fin : ∀ {s : Ls} {M : Nat} {e : Ending} {w' : World}, M ≤ N + CB → WP w0 (w.alloc (.cells (bdc b p) 66)) s M e w' → WP w0 w s (N + CB) e w' := fun hM q => ⟨q.1, q.2.1.mono hM, HW.out.trans q.2.2⟩
  have hz : Hid _ := h.open
  obtain ⟨k3, k4, k5, k6⟩ := kd_inv f
  clear cn ct hx h HW
  rcases kd_cases f with e | e | e | e | e | e | e
  · have e2 : eK (kd f) (b f) = some (eInt (b f).n) := by rw [e]; rfl
    have HC : Hid (Calls Tryd.prog 56 #[.pointer (some ⟨w0.heap.size, 0, none⟩), .int .i64 (b f).n] (w.alloc (.cells (bdc b p) 66)) (WP w0 w (oa st (eK (kd f) (b f))) (N + CB))) := by
      rw [e2]; exact (wnum_any w0 _ st N _ (by omega) h1).mono fun _ _ q => fin (by unfold CB; omega) q
    generalize oa st (eK (kd f) (b f)) = st2 at *
    rw [e] at HK
    clear e e2 fin h1 k3 k4 k5 k6 hok
    generalize (b f).n = vn at *
    generalize (b f).t = vt at *
    generalize bdc b p = cs at *
    go_enter Tryd.func43, Tryd.ntmps43
    go_wp2_with (first
      | (go_at_call 55; refine (HK.out _).mono ?_; rintro e w1 ⟨rfl, rfl⟩)
      | (go_at_call 56; refine Calls.mono HC.out ?_; rintro e w2 ⟨rfl, hw2, hk2⟩))
    go_end0
    exact ⟨rfl, hw2, hk2⟩
  · have e2 : eK (kd f) (b f) = eNat 1 (b f).n := by rw [e]; rfl
    have f7 : f = 7 := by unfold kd at e; grind
    have HC : Hid (Calls Tryd.prog 23 #[.pointer (some ⟨w0.heap.size, 0, none⟩), .int .i64 1, .int .i64 (b f).n] (w.alloc (.cells (bdc b p) 66)) (WP w0 w (oa st (eK (kd f) (b f))) (N + CB))) := by
      rw [e2]; exact (wnat_any w0 _ st N 1 1 _ rfl (by omega) (by rw [f7]; exact hok.fl) (by omega) h1).mono fun _ _ q => fin (by unfold CB; omega) q
    clear f7
    generalize oa st (eK (kd f) (b f)) = st2 at *
    rw [e] at HK
    clear e e2 fin h1 k3 k4 k5 k6 hok
    generalize (b f).n = vn at *
    generalize (b f).t = vt at *
    generalize bdc b p = cs at *
    go_enter Tryd.func43, Tryd.ntmps43
    go_wp2_with (first
      | (go_at_call 55; refine (HK.out _).mono ?_; rintro e w1 ⟨rfl, rfl⟩)
      | (go_at_call 23; refine Calls.mono HC.out ?_; rintro e w2 ⟨rfl, hw2, hk2⟩))
    go_end0
    exact ⟨rfl, hw2, hk2⟩
  · have e2 : eK (kd f) (b f) = eText (b f).t := by rw [e]; rfl
    have HC : Hid (Calls Tryd.prog 57 #[.pointer (some ⟨w0.heap.size, 0, none⟩), .string (b f).t] (w.alloc (.cells (bdc b p) 66)) (WP w0 w (oa st (eK (kd f) (b f))) (N + CB))) := by
      rw [e2]; exact (wtext_any w0 _ st N _ (hok.tx f) (by omega) h1).mono fun _ _ q => fin (by unfold CB; omega) q
    generalize oa st (eK (kd f) (b f)) = st2 at *
    rw [e] at HK
    clear e e2 fin h1 k3 k4 k5 k6 hok
    generalize (b f).n = vn at *
    generalize (b f).t = vt at *
    generalize bdc b p = cs at *
    go_enter Tryd.func43, Tryd.ntmps43
    go_wp2_with (first
      | (go_at_call 55; refine (HK.out _).mono ?_; rintro e w1 ⟨rfl, rfl⟩)
      | (go_at_call 57; refine Calls.mono HC.out ?_; rintro e w2 ⟨rfl, hw2, hk2⟩))
    go_end0
    exact ⟨rfl, hw2, hk2⟩
  · obtain rfl := k3 e
    have e2 : eK (kd 11) (b 11) = eRow eRec (b 11).rs := by rw [e]; rfl
    have HC : Hid (Calls Tryd.prog 58 #[.pointer (some ⟨w0.heap.size, 0, none⟩), .slice p.ra (b 11).rs.length p.rc, .func (.func 59) #[.pointer (some ⟨w0.heap.size, 0, none⟩)] #[]] (w.alloc (.cells (bdc b p) 66)) (WP w0 w (oa st (eK (kd 11) (b 11))) (N + CB))) := by
      rw [e2]; exact (wrow_rec w0 _ st N _ _ _ (by omega) hok.lr hok.rok hok.rs h1).mono fun _ _ q => fin (by have := hok.lr; unfold CB; omega) q
    generalize oa st (eK (kd 11) (b 11)) = st2 at *
    rw [e] at HK
    clear e e2 fin h1 k3 k4 k5 k6 hok
    generalize bdc b p = cs at *
    go_enter Tryd.func43, Tryd.ntmps43
    go_wp2_with (first
      | (go_at_call 55; refine (HK.out _).mono ?_; rintro e w1 ⟨rfl, rfl⟩)
      | (go_at_call 58; refine Calls.mono HC.out ?_; rintro e w2 ⟨rfl, hw2, hk2⟩))
    go_end0
    exact ⟨rfl, hw2, hk2⟩
  · obtain rfl := k4 e
    have e2 : eK (kd 17) (b 17) = eRow eText (b 17).nm := by rw [e]; rfl
    have HC : Hid (Calls Tryd.prog 60 #[.pointer (some ⟨w0.heap.size, 0, none⟩), .slice p.na (b 17).nm.length p.nc, .func (.func 57) #[.pointer (some ⟨w0.heap.size, 0, none⟩)] #[]] (w.alloc (.cells (bdc b p) 66)) (WP w0 w (oa st (eK (kd 17) (b 17))) (N + CB))) := by
      rw [e2]; exact (wrow_txt w0 _ st N _ _ _ (by omega) hok.ln hok.nok hok.nm h1).mono fun _ _ q => fin (by have := hok.ln; unfold CB; omega) q
    generalize oa st (eK (kd 17) (b 17)) = st2 at *
    rw [e] at HK
    clear e e2 fin h1 k3 k4 k5 k6 hok
    generalize bdc b p = cs at *
    go_enter Tryd.func43, Tryd.ntmps43
    go_wp2_with (first
      | (go_at_call 55; refine (HK.out _).mono ?_; rintro e w1 ⟨rfl, rfl⟩)
      | (go_at_call 60; refine Calls.mono HC.out ?_; rintro e w2 ⟨rfl, hw2, hk2⟩))
    go_end0
    exact ⟨rfl, hw2, hk2⟩
  · obtain rfl := k5 e
    have e2 : eK (kd 18) (b 18) = eRow (fun x => some (eInt x)) (b 18).ct := by rw [e]; rfl
    have HC : Hid (Calls Tryd.prog 61 #[.pointer (some ⟨w0.heap.size, 0, none⟩), .slice p.ca (b 18).ct.length p.cc, .func (.func 56) #[.pointer (some ⟨w0.heap.size, 0, none⟩)] #[]] (w.alloc (.cells (bdc b p) 66)) (WP w0 w (oa st (eK (kd 18) (b 18))) (N + CB))) := by
      rw [e2]; exact (wrow_int w0 _ st N _ _ _ (by omega) hok.lc hok.ct h1).mono fun _ _ q => fin (by have := hok.lc; unfold CB; omega) q
    generalize oa st (eK (kd 18) (b 18)) = st2 at *
    rw [e] at HK
    clear e e2 fin h1 k3 k4 k5 k6 hok
    generalize bdc b p = cs at *
    go_enter Tryd.func43, Tryd.ntmps43
    go_wp2_with (first
      | (go_at_call 55; refine (HK.out _).mono ?_; rintro e w1 ⟨rfl, rfl⟩)
      | (go_at_call 61; refine Calls.mono HC.out ?_; rintro e w2 ⟨rfl, hw2, hk2⟩))
    go_end0
    exact ⟨rfl, hw2, hk2⟩
  · obtain rfl := k6 e
    have e2 : eK (kd 19) (b 19) = eRow eBat (p.bs.map (·.b)) := by rw [e, hok.bb]; rfl
    have HC : Hid (Calls Tryd.prog 62 #[.pointer (some ⟨w0.heap.size, 0, none⟩), .slice p.ba p.bs.length p.bc, .func (.func 63) #[.pointer (some ⟨w0.heap.size, 0, none⟩)] #[]] (w.alloc (.cells (bdc b p) 66)) (WP w0 w (oa st (eK (kd 19) (b 19))) (N + CB))) := by
      rw [e2]; exact (wrow_bat w0 _ st N _ _ _ (by omega) hok.lb hok.tab hok.bs h1).mono fun _ _ q => fin (by have := hok.lb; unfold CB; omega) q
    generalize oa st (eK (kd 19) (b 19)) = st2 at *
    rw [e] at HK
    clear e e2 fin h1 k3 k4 k5 k6 hok
    generalize bdc b p = cs at *
    go_enter Tryd.func43, Tryd.ntmps43
    go_wp2_with (first
      | (go_at_call 55; refine (HK.out _).mono ?_; rintro e w1 ⟨rfl, rfl⟩)
      | (go_at_call 62; refine Calls.mono HC.out ?_; rintro e w2 ⟨rfl, hw2, hk2⟩))
    go_end0
    exact ⟨rfl, hw2, hk2⟩
theorem eFs_snoc (b : Bd) (l : List Nat) (f : Nat) : eFs b (l ++ [f]) = oa (eFs b l) (eK (kd f) (b f)) := by
  induction l with
  | nil => simp [eFs, oa_nil, nil_oa]
  | cons x r ih => simp only [List.cons_append, eFs, ih, oa_assoc]
theorem eFs_take (b : Bd) (r : List Nat) (k : Nat) (hk : k < r.length) : eFs b (r.take (k + 1)) = oa (eFs b (r.take k)) (eK (kd (r.getD k 0)) (b (r.getD k 0))) := by
  rw [List.take_succ_eq_append_getElem hk, eFs_snoc]
  simp [List.getD, hk]
set_option maxHeartbeats 1600000 in
set_option maxRecDepth 100000 in
theorem fields_in (w0 w : World) (st s1 st2 : Ls) (N : Nat) (cs : Array Value) (a : Option Addr) (cap : Nat) (r : List Nat) (S : Nat → Ls) (m bad cc : Bool) (hz : cs.size = 44) (hlen : r.length ≤ 7) (hN : N ≤ 1000000000)
    (hbad : bad = st.isNone) (hcc : cc = s1.isNone) (hc : cc = (bad || m)) (hst : ∀ L, s1 = some L → st = some L)
    (HS0 : Hid (s1 = S 0)) (HSA : Hid (S r.length = st2)) (HR : Hid (FRow w0 a r)) (h : WrS w0 w st N)
    (HM : Hid (∀ x, FRow x a r → Calls Tryd.prog 42 #[.agg cs, .slice a r.length cap] x fun e w' => e = .returned (.bool m) ∧ Below x.heap.size x w'))
    (HL : Hid (∀ k x M, k < r.length → M ≤ 100000000000 → WrS w0 x (S k) M → Calls Tryd.prog 43 #[.pointer (some ⟨w0.heap.size, 0, none⟩), .agg cs, .int .i64 ((r.getD k 0 : Nat) : Int)] x (WP w0 x (S (k + 1)) (M + CB)))) :
    Calls Tryd.prog 24 #[.pointer (some ⟨w0.heap.size, 0, none⟩), .agg cs, .slice a r.length cap] w (WP w0 w st2 (N + r.length * CB)) := by
  obtain ⟨a0, n0, c0, q0, q1, q2, q3, q4⟩ := h.open
  rw [← hbad] at q1
  have HNE : Hid (w.heap.size ≠ w0.heap.size) := by show _ ≠ _; omega
  have hne1 : ¬ w0.heap.size = w.heap.size := by omega
  have hne2 : ¬ w.heap.size = w0.heap.size := by omega
  have hlI : (r.length : Int) ≤ 7 := by omega
  have HH : Hid (WrS w0 w st N) := h
  have HST : Hid (cc = s1.isNone ∧ ∀ L, s1 = some L → st = some L) := ⟨hcc, hst⟩
  have HZ : Hid (cs.size = 44) := hz
  have HLN : Hid (r.length ≤ 7) := hlen
  have HNN : Hid (N ≤ 1000000000) := hN
  clear hbad hcc hst h hz hN
  cases bad
  · have HX0 : Hid ((w.alloc (.cells cs 66)).heap[w.heap.size]? = some (.cells cs 66 (0, 0))) := heap_alloc_new w _
    have HB0 : Hid (Below w.heap.size w (w.alloc (.cells cs 66))) := below_box _
    have HF0 : Hid (FRow (w.alloc (.cells cs 66)) a r) := (FRow.below HR.out HH.out.bel).below (below_box _)
    obtain rfl : cc = m := by rw [hc]; rfl
    clear hc
    have tok : True := trivial
    go_enter Tryd.func24, Tryd.ntmps24
    go_wp2_with (first
      | (go_at_call 42; refine (HM.out _ HF0.out).mono ?_; rintro e w1 ⟨rfl, hb1⟩; have HB1 : Hid (Below w.heap.size w w1) := HB0.out.trans (hb1.mono HB0.out.size); have hS1 := WrS.setBad (HH.out.below HB1.out) s1 cc HST.out.1 HST.out.2; have HS1 : Hid (WrS w0 (w1.setCell ⟨w0.heap.size, 1, none⟩ (.bool cc)) s1 N) := hS1.1; have HK1 : Hid (KeepT w0.heap.size w (w1.setCell ⟨w0.heap.size, 1, none⟩ (.bool cc))) := (KeepT.of_below HB1.out).trans hS1.2; have HX1 : Hid ((w1.setCell ⟨w0.heap.size, 1, none⟩ (.bool cc)).heap[w.heap.size]? = some (.cells cs 66 (0, 0))) := hS1.2.box ((hb1.block _ (Array.getElem?_eq_some_iff.1 HX0.out).1).trans HX0.out) HNE.out (by decide); obtain ⟨d0, d1, d2, d3, d4, d5, d6, d7⟩ := WrS.open (HH.out.below HB1.out); clear hb1 hS1 HX0 HB0 tok)
      | (have _h := tok; refine load_row_g (by rfl) 66 _ rfl w.heap.size rfl 66 cs (0, 0) _ HX0.out Tryd.underlying66 rfl (by rw [HZ.out]; exact Tryd.info66) ?_; clear _h))
    go_loopw [22] (fun i wr => ∃ k : Nat, k ≤ r.length ∧ i = .int .i64 k ∧ WrS w0 wr (S k) (N + k * CB) ∧ KeepT w0.heap.size w wr ∧ wr.heap[w.heap.size]? = some (.cells cs 66 (0, 0))) (fun i _ => r.length - (intOf i).toNat)
    case atStart => exact ⟨0, by omega, rfl, by rw [← HS0.out, Nat.zero_mul, Nat.add_zero]; exact HS1.out, HK1.out, HX1.out⟩
    case round =>
      obtain ⟨k, hk, rfl, hw1, hk1, hx1⟩ := hrel
      by_cases hlt : k < r.length
      · have hltI : (k : Int) < (r.length : Int) := by omega
        have HW1 : Hid (WrS w0 wr (S k) (N + k * CB)) := hw1
        have HX2 : Hid (wr.heap[w.heap.size]? = some (.cells cs 66 (0, 0))) := hx1
        obtain ⟨b, off, rfl, z0⟩ := (FRow.below HR.out hw1.bel) k hlt
        have HC : Hid (Calls Tryd.prog 43 #[.pointer (some ⟨w0.heap.size, 0, none⟩), .agg cs, .int .i64 ((r.getD k 0 : Nat) : Int)] wr (WP w0 wr (S (k + 1)) (N + k * CB + CB))) := HL.out k wr _ hlt (by have := HLN.out; have := HNN.out; have := Nat.mul_le_mul_right CB hk; have := Nat.mul_le_mul_right CB HLN.out; unfold CB at *; omega) hw1
        clear hw1 hx1 HL
        generalize r.getD k 0 = f at *
        go_wp2_with (first
          | (go_at_call 43; refine Calls.mono HC.out ?_; rintro e w2 ⟨rfl, hw2, hk2⟩; have HX3 : Hid (w2.heap[w.heap.size]? = some (.cells cs 66 (0, 0))) := hk2.box HX2.out HNE.out (by decide); clear HC)
          | (have _h := HC; refine wpList_load_row rfl 66 _ rfl w.heap.size rfl 66 cs (0, 0) _ HX2.out Tryd.underlying66 rfl (by rw [HZ.out]; exact Tryd.info66) ?_; clear _h))
        exact ⟨⟨k + 1, by omega, by go_num, by rw [Nat.succ_mul, ← Nat.add_assoc]; exact hw2, hk1.trans hk2, HX3.out⟩, by simp [intOf]; omega⟩
      · obtain rfl : k = r.length := by omega
        go_wp2_with fail
        go_end0
        rw [← HSA.out]
        exact ⟨rfl, hw1, hk1⟩
  · obtain rfl : cc = true := by rw [hc]; rfl
    clear hc
    have hS1 := WrS.setBad HH.out s1 true HST.out.1 HST.out.2
    have hsz : (w.setCell ⟨w0.heap.size, 1, none⟩ (.bool true)).heap.size = w.heap.size := by simp [World.setCell]
    have HS1 : Hid (WrS w0 ((w.setCell ⟨w0.heap.size, 1, none⟩ (.bool true)).alloc (.cells cs 66)) s1 N) := hS1.1.below (below_box _)
    have HK1 : Hid (KeepT w0.heap.size w ((w.setCell ⟨w0.heap.size, 1, none⟩ (.bool true)).alloc (.cells cs 66))) := hS1.2.trans (KeepT.of_below (below_box _))
    have HX1 : Hid (((w.setCell ⟨w0.heap.size, 1, none⟩ (.bool true)).alloc (.cells cs 66)).heap[w.heap.size]? = some (.cells cs 66 (0, 0))) := by
      have q := heap_alloc_new (w.setCell ⟨w0.heap.size, 1, none⟩ (.bool true)) (.cells cs 66)
      rw [hsz] at q
      exact q
    clear hS1 hsz
    go_enter Tryd.func24, Tryd.ntmps24
    go_wp2_with fail
    go_loopw [22] (fun i wr => ∃ k : Nat, k ≤ r.length ∧ i = .int .i64 k ∧ WrS w0 wr (S k) (N + k * CB) ∧ KeepT w0.heap.size w wr ∧ wr.heap[w.heap.size]? = some (.cells cs 66 (0, 0))) (fun i _ => r.length - (intOf i).toNat)
    case atStart => exact ⟨0, by omega, rfl, by rw [← HS0.out, Nat.zero_mul, Nat.add_zero]; exact HS1.out, HK1.out, HX1.out⟩
    case round =>
      obtain ⟨k, hk, rfl, hw1, hk1, hx1⟩ := hrel
      by_cases hlt : k < r.length
      · have hltI : (k : Int) < (r.length : Int) := by omega
        have HW1 : Hid (WrS w0 wr (S k) (N + k * CB)) := hw1
        have HX2 : Hid (wr.heap[w.heap.size]? = some (.cells cs 66 (0, 0))) := hx1
        obtain ⟨b, off, rfl, z0⟩ := (FRow.below HR.out hw1.bel) k hlt
        have HC : Hid (Calls Tryd.prog 43 #[.pointer (some ⟨w0.heap.size, 0, none⟩), .agg cs, .int .i64 ((r.getD k 0 : Nat) : Int)] wr (WP w0 wr (S (k + 1)) (N + k * CB + CB))) := HL.out k wr _ hlt (by have := HLN.out; have := HNN.out; have := Nat.mul_le_mul_right CB hk; have := Nat.mul_le_mul_right CB HLN.out; unfold CB at *; omega) hw1
        clear hw1 hx1 HL
        generalize r.getD k 0 = f at *
        go_wp2_with (first
          | (go_at_call 43; refine Calls.mono HC.out ?_; rintro e w2 ⟨rfl, hw2, hk2⟩; have HX3 : Hid (w2.heap[w.heap.size]? = some (.cells cs 66 (0, 0))) := hk2.box HX2.out HNE.out (by decide); clear HC)
          | (have _h := HC; refine wpList_load_row rfl 66 _ rfl w.heap.size rfl 66 cs (0, 0) _ HX2.out Tryd.underlying66 rfl (by rw [HZ.out]; exact Tryd.info66) ?_; clear _h))
        exact ⟨⟨k + 1, by omega, by go_num, by rw [Nat.succ_mul, ← Nat.add_assoc]; exact hw2, hk1.trans hk2, HX3.out⟩, by simp [intOf]; omega⟩
      · obtain rfl : k = r.length := by omega
        go_wp2_with fail
        go_end0
        rw [← HSA.out]
        exact ⟨rfl, hw1, hk1⟩
theorem fields_any (w0 w : World) (st : Ls) (N : Nat) (b : Bd) (p : Pt) (a : Option Addr) (cap : Nat) (r : List Nat) (hlen : r.length ≤ 7) (hN : N ≤ 1000000000) (hr : FRow w0 a r) (hf : ∀ f, f ∈ r → f < 20) (hok : BdOk w0 b p) (h : WrS w0 w st N) :
    Calls Tryd.prog 24 #[.pointer (some ⟨w0.heap.size, 0, none⟩), .agg (bdc b p), .slice a r.length cap] w (WP w0 w (if moreB b r = true then none else oa st (eFs b r)) (N + r.length * CB)) := by
  have HM : Hid (∀ x, FRow x a r → Calls Tryd.prog 42 #[.agg (bdc b p), .slice a r.length cap] x fun e w' => e = .returned (.bool (moreB b r)) ∧ Below x.heap.size x w') := fun x hx => hasMore_any b p a cap r x hok.len hx (by omega)
  have hfk : ∀ k, k < r.length → r.getD k 0 < 20 := fun k hk => hf _ (by simp [List.getD, hk])
  cases hm : moreB b r with
  | false =>
    rw [hm] at HM
    simp only [Bool.false_eq_true, if_false]
    refine fields_in w0 w st st _ N (bdc b p) a cap r (fun k => oa st (eFs b (r.take k))) false st.isNone st.isNone (bdc_size b p) hlen hN rfl rfl (by simp) (fun _ e => e) ?_ ?_ hr h HM ?_
    · show _ = _; simp [eFs, oa_nil]
    · show _ = _; simp
    · intro k x M hk hM hx
      rw [eFs_take b r k hk, ← oa_assoc]
      exact lay_f w0 x _ M b p _ (hfk k hk) hM hok hx
  | true =>
    rw [hm] at HM
    simp only [if_true]
    refine fields_in w0 w st none none N (bdc b p) a cap r (fun k => none) true st.isNone true (bdc_size b p) hlen hN rfl rfl (by simp) (fun _ e => by cases e) ?_ ?_ hr h HM ?_
    · rfl
    · rfl
    · intro k x M hk hM hx
      have q := lay_f w0 x none M b p _ (hfk k hk) hM hok hx
      rw [none_oa] at q
      exact q
end Go.Proofs.YtaooidckmepdeaaDoor
