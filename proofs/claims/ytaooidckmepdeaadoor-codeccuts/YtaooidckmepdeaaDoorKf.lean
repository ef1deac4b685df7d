/- All fields in memory: kindOf, has, Contains, hasMore. -/
import Derived.Test.YtaooidckmepdeaaDoorKe
import Derived.Laws.Rows
namespace Go.Proofs.YtaooidckmepdeaaDoor
set_option linter.unusedSimpArgs false
set_option linter.unusedVariables false
open Go.RowKit
/-- Where the rows of a body lie. -/
structure Pt where
  ra : Option Addr
  rc : Nat
  na : Option Addr
  nc : Nat
  ca : Option Addr
  cc : Nat
  ba : Option Addr
  bc : Nat
  bs : List Bs
def bdl (b : Bd) (p : Pt) : List Value := (List.range 20).map (fun i => Value.int .i64 (b i).n) ++ ((List.range 20).map (fun i => Value.string (b i).t) ++ [.slice p.ra (b 11).rs.length p.rc, .slice p.na (b 17).nm.length p.nc, .slice p.ca (b 18).ct.length p.cc, .slice p.ba p.bs.length p.bc])
/-- The cells of a body. -/
def bdc (b : Bd) (p : Pt) : Array Value := (bdl b p).toArray
theorem bdc_size (b : Bd) (p : Pt) : (bdc b p).size = 44 := by simp [bdc, bdl]
theorem bdc_n (b : Bd) (p : Pt) (f : Nat) (h : f < 20) : (bdc b p)[f]? = some (.int .i64 (b f).n) := by
  simp only [bdc, bdl, List.getElem?_toArray]
  rw [List.getElem?_append_left (by simpa using h)]
  simp [h]
theorem bdc_t (b : Bd) (p : Pt) (f : Nat) (h : f < 20) : (bdc b p)[20 + f]? = some (.string (b f).t) := by
  simp only [bdc, bdl, List.getElem?_toArray]
  rw [List.getElem?_append_right (by simp), List.getElem?_append_left (by simpa using h)]
  simp [h]
theorem bdc_r (b : Bd) (p : Pt) : (bdc b p)[40]? = some (.slice p.ra (b 11).rs.length p.rc) ∧ (bdc b p)[41]? = some (.slice p.na (b 17).nm.length p.nc) ∧ (bdc b p)[42]? = some (.slice p.ca (b 18).ct.length p.cc) ∧ (bdc b p)[43]? = some (.slice p.ba p.bs.length p.bc) := by
  simp only [bdc, bdl, List.getElem?_toArray]
  refine ⟨?_, ?_, ?_, ?_⟩
  all_goals rw [List.getElem?_append_right (by simp), List.getElem?_append_right (by simp)]; simp
theorem bdc_box {w : World} {x : Nat} {b : Bd} {p : Pt} (h : w.heap[x]? = some (.cells (bdc b p) 66 (0, 0))) :
    (∀ f, f < 20 → w.cell? ⟨x, f, none⟩ = some (.int .i64 (b f).n)) ∧ (∀ f, f < 20 → w.cell? ⟨x, 20 + f, none⟩ = some (.string (b f).t)) ∧ w.cell? ⟨x, 40, none⟩ = some (.slice p.ra (b 11).rs.length p.rc) ∧ w.cell? ⟨x, 41, none⟩ = some (.slice p.na (b 17).nm.length p.nc) ∧ w.cell? ⟨x, 42, none⟩ = some (.slice p.ca (b 18).ct.length p.cc) ∧ w.cell? ⟨x, 43, none⟩ = some (.slice p.ba p.bs.length p.bc) ∧ x < w.heap.size := by
  have hc : ∀ j, w.cell? ⟨x, j, none⟩ = (bdc b p)[j]? := fun j => (box_at h j).1
  obtain ⟨r0, r1, r2, r3⟩ := bdc_r b p
  exact ⟨fun f hf => by rw [hc, bdc_n b p f hf], fun f hf => by rw [hc, bdc_t b p f hf], by rw [hc, r0], by rw [hc, r1], by rw [hc, r2], by rw [hc, r3], (Array.getElem?_eq_some_iff.1 h).1⟩
set_option maxRecDepth 100000 in
theorem kindOf_any (f : Nat) (w : World) : Calls Tryd.prog 55 #[.int .i64 (f : Int)] w fun e w' => e = .returned (.int .i64 ((kd f : Nat) : Int)) ∧ w' = w := by
  obtain ⟨K, HK⟩ : ∃ K, Hid (kd f = K) := ⟨_, rfl⟩
  rw [HK.out]
  go_enter Tryd.func55, Tryd.ntmps55
  go_wp2
  all_goals
    go_ret
    refine ⟨retI ?_, rfl⟩
    rw [← HK.out]
    unfold kd
    grind
theorem kd_inv (f : Nat) : (kd f = 3 → f = 11) ∧ (kd f = 4 → f = 17) ∧ (kd f = 5 → f = 18) ∧ (kd f = 6 → f = 19) := by
  unfold kd
  grind
theorem has_len {α : Type} (l : List α) : decide ((l.length : Int) > 0) = decide (0 < l.length) := by
  by_cases h : 0 < l.length
  · rw [decide_eq_true h, decide_eq_true (by omega)]
  · rw [decide_eq_false h, decide_eq_false (by omega)]
set_option maxHeartbeats 800000 in
set_option maxRecDepth 100000 in
theorem has_any (b : Bd) (p : Pt) (f : Nat) (w : World) (hf : f < 20) (hb : p.bs.length = (b 19).bs.length) :
    Calls Tryd.prog 53 #[.agg (bdc b p), .int .i64 (f : Int)] w fun e w' => e = .returned (.bool (hasK (kd f) (b f))) ∧ Below w.heap.size w w' := by
  have HK : Hid (∀ x, Calls Tryd.prog 55 #[.int .i64 (f : Int)] x fun e w' => e = .returned (.int .i64 ((kd f : Nat) : Int)) ∧ w' = x) := fun x => kindOf_any f x
  have hx : (w.alloc (.cells (bdc b p) 66)).heap[w.heap.size]? = some (.cells (bdc b p) 66 (0, 0)) := heap_alloc_new w _
  obtain ⟨cn, ct, c0, c1, c2, c3, _⟩ := bdc_box hx
  have cnf := cn f hf
  have ctf := ct f hf
  have hfI : (f : Int) < 20 := by omega
  have HB : Hid (p.bs.length = (b 19).bs.length) := hb
  obtain ⟨k3, k4, k5, k6⟩ := kd_inv f
  clear cn ct hx hb
  generalize bdc b p = cs at *
  rcases kd_cases f with e | e | e | e | e | e | e
  · rw [e] at HK ⊢
    clear c0 c1 c2 c3 k3 k4 k5 k6 e
    generalize b f = v at *
    go_enter Tryd.func53, Tryd.ntmps53
    go_wp2_with (go_at_call 55; refine (HK.out _).mono ?_; rintro e w' ⟨rfl, rfl⟩)
    go_ret
    refine ⟨retB ?_, below_box _⟩
    simp [hasK, bne]
  · rw [e] at HK ⊢
    clear c0 c1 c2 c3 k3 k4 k5 k6 e
    generalize b f = v at *
    go_enter Tryd.func53, Tryd.ntmps53
    go_wp2_with (go_at_call 55; refine (HK.out _).mono ?_; rintro e w' ⟨rfl, rfl⟩)
    go_ret
    refine ⟨retB ?_, below_box _⟩
    simp [hasK, bne]
  · rw [e] at HK ⊢
    clear c0 c1 c2 c3 k3 k4 k5 k6 e
    generalize b f = v at *
    go_enter Tryd.func53, Tryd.ntmps53
    go_wp2_with (go_at_call 55; refine (HK.out _).mono ?_; rintro e w' ⟨rfl, rfl⟩)
    go_ret
    refine ⟨retB ?_, below_box _⟩
    have q := str_nil v.t
    simp only [hasK, if_true]
    rw [q]
    rfl
  · obtain rfl := k3 e
    rw [e] at HK ⊢
    clear c1 c2 c3 k3 k4 k5 k6 e
    generalize b 11 = v at *
    go_enter Tryd.func53, Tryd.ntmps53
    go_wp2_with (go_at_call 55; refine (HK.out _).mono ?_; rintro e w' ⟨rfl, rfl⟩)
    go_ret
    refine ⟨retB ?_, below_box _⟩
    simp [hasK]
  · obtain rfl := k4 e
    rw [e] at HK ⊢
    clear c0 c2 c3 k3 k4 k5 k6 e
    generalize b 17 = v at *
    go_enter Tryd.func53, Tryd.ntmps53
    go_wp2_with (go_at_call 55; refine (HK.out _).mono ?_; rintro e w' ⟨rfl, rfl⟩)
    go_ret
    refine ⟨retB ?_, below_box _⟩
    simp [hasK]
  · obtain rfl := k5 e
    rw [e] at HK ⊢
    clear c0 c1 c3 k3 k4 k5 k6 e
    generalize b 18 = v at *
    go_enter Tryd.func53, Tryd.ntmps53
    go_wp2_with (go_at_call 55; refine (HK.out _).mono ?_; rintro e w' ⟨rfl, rfl⟩)
    go_ret
    refine ⟨retB ?_, below_box _⟩
    simp [hasK]
  · obtain rfl := k6 e
    rw [e] at HK ⊢
    clear c0 c1 c2 k3 k4 k5 k6 e
    generalize b 19 = v at *
    go_enter Tryd.func53, Tryd.ntmps53
    go_wp2_with (go_at_call 55; refine (HK.out _).mono ?_; rintro e w' ⟨rfl, rfl⟩)
    go_ret
    refine ⟨retB ?_, below_box _⟩
    rw [HB.out]
    simp [hasK]
/-- A row of fields. -/
def FRow (w : World) (a : Option Addr) (r : List Nat) : Prop := ∀ i, i < r.length → ∃ b off, a = some ⟨b, off, none⟩ ∧ w.cell? ⟨b, off + i, none⟩ = some (.int .i64 ((r.getD i 0 : Nat) : Int))
theorem FRow.below {w w' : World} {a : Option Addr} {r : List Nat} (h : FRow w a r) (hb : Below w.heap.size w w') : FRow w' a r := by
  intro i hi
  obtain ⟨b, off, e, h0⟩ := h i hi
  exact ⟨b, off, e, (hb.cell (World.block_lt_of_cell? _ _ h0)).trans h0⟩
theorem contains_false {r : List Nat} {f : Nat} (h : ∀ j, j < r.length → r.getD j 0 ≠ f) : r.contains f = false := by
  rw [List.contains_eq_mem, decide_eq_false_iff_not]
  intro hm
  obtain ⟨i, hi, e⟩ := List.getElem_of_mem hm
  exact h i hi (by simp [List.getD, hi, e])
theorem contains_true {r : List Nat} {f k : Nat} (hk : k < r.length) (h : r.getD k 0 = f) : r.contains f = true := by
  rw [List.contains_eq_mem, decide_eq_true_eq, ← h]
  simp [List.getD, hk]
set_option maxRecDepth 100000 in
theorem index_any (a : Option Addr) (cap : Nat) (r : List Nat) (f : Nat) (w : World) (hr : FRow w a r) (hl : r.length ≤ 1000) :
    Calls Tryd.prog 81 #[.slice a r.length cap, .int .i64 (f : Int)] w fun e w' => (∃ z : Int, e = .returned (.int .i64 z) ∧ decide (z ≥ 0) = r.contains f) ∧ w' = w := by
  have hlI : (r.length : Int) ≤ 1000 := by omega
  go_enter Tryd.func81, Tryd.ntmps81
  go_wp2
  go_loopw [8] (fun i wr => ∃ k : Nat, k ≤ r.length ∧ i = .int .i64 k ∧ wr = w ∧ ∀ j, j < k → r.getD j 0 ≠ f) (fun i _ => r.length - (intOf i).toNat)
  case atStart => exact ⟨0, by omega, rfl, rfl, by intro j hj; omega⟩
  case round =>
    obtain ⟨k, hk, rfl, rfl, hs⟩ := hrel
    by_cases hlt : k < r.length
    · have hltI : (k : Int) < (r.length : Int) := by omega
      obtain ⟨b, off, rfl, z0⟩ := hr k hlt
      have HS : Hid (∀ j, j < k → r.getD j 0 ≠ f) := hs
      have HT : Hid (r.getD k 0 = f → r.contains f = true) := contains_true hlt
      have HQ : Hid (r.getD k 0 ≠ f → ∀ j, j < k + 1 → r.getD j 0 ≠ f) := fun e j hj => by
        by_cases hjk : j = k
        · subst hjk; exact e
        · exact HS.out j (by omega)
      clear hs hr
      generalize r.getD k 0 = x at *
      by_cases hx : x = f
      · have e1 : ((f : Int) == (x : Int)) = true := by rw [hx]; simp
        go_wp2_with fail
        go_ret
        exact ⟨⟨_, rfl, by rw [HT.out hx, decide_eq_true (by omega)]⟩, rfl⟩
      · have e1 : ((f : Int) == (x : Int)) = false := by simp; omega
        have HX : Hid (x ≠ f) := hx
        have hx2 : ¬ (f : Int) = (x : Int) := by omega
        clear hx
        go_wp2_with fail
        exact ⟨⟨k + 1, by omega, by go_num, by first | rfl | trivial, HQ.out HX.out⟩, by simp [intOf]; omega⟩
    · obtain rfl : k = r.length := by omega
      have HS : Hid (r.contains f = false) := contains_false hs
      clear hs hr
      go_wp2_with fail
      go_ret
      exact ⟨⟨_, rfl, by rw [HS.out]; rfl⟩, rfl⟩
set_option maxRecDepth 100000 in
theorem contains_any (a : Option Addr) (cap : Nat) (r : List Nat) (f : Nat) (w : World) (hr : FRow w a r) (hl : r.length ≤ 1000) :
    Calls Tryd.prog 54 #[.slice a r.length cap, .int .i64 (f : Int)] w fun e w' => e = .returned (.bool (r.contains f)) ∧ w' = w := by
  have HI : Hid _ := index_any a cap r f w hr hl
  go_enter Tryd.func54, Tryd.ntmps54
  go_wp2_with (go_at_call 81; refine Calls.mono HI.out ?_; rintro e w' ⟨⟨z, rfl, hz⟩, rfl⟩; have HZ : Hid _ := hz; clear hz)
  go_ret
  exact ⟨retB HZ.out, rfl⟩
theorem Tryd.info66 : (Tryd.prog.info? 66).map (·.size) = some 44 := by kernel_rfl
theorem load_row_g {P : Program} {ops : Array Oper} {rest : List Oper} {o : Oper} {a : Act} {w : World} {Q : Exit → Act → World → Prop} (hgd : Region.wanted o (yielded ops a.tmps) = true) (ty : TypeId) (x : Operand) (ho : o.op = .load ty x)
    (g : Nat) (hx : a.eval x = .pointer (some ⟨g, 0, none⟩)) (t : TypeId) (cs : Array Value) (fr : Nat × Nat) (d : TypeDesc) (hg : w.heap[g]? = some (.cells cs t fr))
    (hu : P.underlying ty = some d) (hd : (match d with | .struct _ | .array _ _ => true | _ => false) = true) (hi : (P.info? ty).map (·.size) = some cs.size)
    (h : wpList P ops Q rest (a.put o.dst (.agg cs)) w) : wpList P ops Q (o :: rest) a w :=
  wpList_step fun K hK => by rw [if_pos hgd]; exact wp_load_row ty x ho g hx t cs fr d hg hu hd hi (hK _ _ h)
theorem any_range_true {g : Nat → Bool} {k n : Nat} (hk : k < n) (h : g k = true) : (List.range n).any g = true := by
  rw [List.any_eq_true]
  exact ⟨k, by simpa using hk, h⟩
theorem any_range_false {g : Nat → Bool} {n : Nat} (h : ∀ k, k < n → g k = false) : (List.range n).any g = false := by
  rw [List.any_eq_false]
  intro k hk
  simp [h k (by simpa using hk)]
set_option maxHeartbeats 800000 in
set_option maxRecDepth 100000 in
theorem hasMore_any (b : Bd) (p : Pt) (a : Option Addr) (cap : Nat) (r : List Nat) (w : World) (hb : p.bs.length = (b 19).bs.length) (hr : FRow w a r) (hl : r.length ≤ 1000) :
    Calls Tryd.prog 42 #[.agg (bdc b p), .slice a r.length cap] w fun e w' => e = .returned (.bool (moreB b r)) ∧ Below w.heap.size w w' := by
  have HH : Hid (∀ (k : Nat) x, k < 20 → Calls Tryd.prog 53 #[.agg (bdc b p), .int .i64 (k : Int)] x fun e w' => e = .returned (.bool (hasK (kd k) (b k))) ∧ Below x.heap.size x w') := fun k x hk => has_any b p k x hk hb
  have HC : Hid (∀ (k : Nat) x, FRow x a r → Calls Tryd.prog 54 #[.slice a r.length cap, .int .i64 (k : Int)] x fun e w' => e = .returned (.bool (r.contains k)) ∧ w' = x) := fun k x hx => contains_any a cap r k x hx hl
  have HX0 : Hid ((w.alloc (.cells (bdc b p) 66)).heap[w.heap.size]? = some (.cells (bdc b p) 66 (0, 0))) := heap_alloc_new w _
  have HZ : Hid ((bdc b p).size = 44) := bdc_size b p
  have HR : Hid (FRow w a r) := hr
  have HT : Hid (∀ k : Nat, k < 20 → (hasK (kd k) (b k) && !r.contains k) = true → moreB b r = true) := fun k hk e => any_range_true hk e
  have HF : Hid ((∀ k : Nat, k < 20 → (hasK (kd k) (b k) && !r.contains k) = false) → moreB b r = false) := fun e => any_range_false e
  clear hr hb
  generalize moreB b r = M at *
  generalize bdc b p = cs at *
  obtain ⟨G, HG⟩ : ∃ G : Nat → Bool, Hid (∀ k, hasK (kd k) (b k) = G k) := ⟨_, fun _ => rfl⟩
  simp only [HG.out] at HH HT HF
  clear HG
  go_enter Tryd.func42, Tryd.ntmps42
  go_wp2_with fail
  go_loopw [6] (fun i wr => ∃ k : Nat, k ≤ 20 ∧ i = .int .i64 k ∧ wr.heap[w.heap.size]? = some (.cells cs 66 (0, 0)) ∧ Below w.heap.size w wr ∧ ∀ j, j < k → (G j && !r.contains j) = false) (fun i _ => 20 - (intOf i).toNat)
  case atStart => exact ⟨0, by omega, rfl, HX0.out, below_box _, by intro j hj; omega⟩
  case round =>
    obtain ⟨k, hk, rfl, hx, hbl, hs⟩ := hrel
    have HX : Hid (wr.heap[w.heap.size]? = some (.cells cs 66 (0, 0))) := hx
    have HBL : Hid (Below w.heap.size w wr) := hbl
    have HS : Hid (∀ j, j < k → (G j && !r.contains j) = false) := hs
    clear hx hbl hs
    by_cases hlt : k < 20
    · have hltI : (k : Int) < 20 := by omega
      have H1 : Hid (Calls Tryd.prog 53 #[.agg cs, .int .i64 (k : Int)] wr fun e w' => e = .returned (.bool (G k)) ∧ Below wr.heap.size wr w') := HH.out k wr hlt
      have H2 : Hid (∀ x, FRow x a r → Calls Tryd.prog 54 #[.slice a r.length cap, .int .i64 (k : Int)] x fun e w' => e = .returned (.bool (r.contains k)) ∧ w' = x) := HC.out k
      have HT1 : Hid ((G k && !r.contains k) = true → M = true) := HT.out k hlt
      have HQ : Hid ((G k && !r.contains k) = false → ∀ j, j < k + 1 → (G j && !r.contains j) = false) := fun e j hj => by
        by_cases hjk : j = k
        · subst hjk; exact e
        · exact HS.out j (by omega)
      clear HH HC HT HF HS
      generalize r.contains k = c at *
      generalize G k = g at *
      cases g with
      | false =>
        go_wp2_with (first
          | (go_at_call 53; refine Calls.mono H1.out ?_; rintro e w1 ⟨rfl, hb1⟩; have HB1 : Hid (Below w.heap.size w w1) := HBL.out.trans (hb1.mono HBL.out.size); have HX1 : Hid (w1.heap[w.heap.size]? = some (.cells cs 66 (0, 0))) := (hb1.block _ (Array.getElem?_eq_some_iff.1 HX.out).1).trans HX.out; clear hb1 H1)
          | (have _h := H1; refine wpList_load_row rfl 66 _ rfl w.heap.size rfl 66 cs (0, 0) _ HX.out Tryd.underlying66 rfl (by rw [HZ.out]; exact Tryd.info66) ?_; clear _h))
        exact ⟨⟨k + 1, by omega, by go_num, HX1.out, HB1.out, HQ.out rfl⟩, by simp [intOf]; omega⟩
      | true =>
        cases c with
        | false =>
          go_wp2_with (first
            | (go_at_call 53; refine Calls.mono H1.out ?_; rintro e w1 ⟨rfl, hb1⟩; have HB1 : Hid (Below w.heap.size w w1) := HBL.out.trans (hb1.mono HBL.out.size); clear hb1 H1)
            | (go_at_call 54; refine (H2.out _ (FRow.below HR.out HB1.out)).mono ?_; rintro e w2 ⟨rfl, rfl⟩)
            | (have _h := H1; refine wpList_load_row rfl 66 _ rfl w.heap.size rfl 66 cs (0, 0) _ HX.out Tryd.underlying66 rfl (by rw [HZ.out]; exact Tryd.info66) ?_; clear _h))
          go_ret
          exact ⟨by rw [HT1.out rfl]; rfl, HB1.out⟩
        | true =>
          go_wp2_with (first
            | (go_at_call 53; refine Calls.mono H1.out ?_; rintro e w1 ⟨rfl, hb1⟩; have HB1 : Hid (Below w.heap.size w w1) := HBL.out.trans (hb1.mono HBL.out.size); have HX1 : Hid (w1.heap[w.heap.size]? = some (.cells cs 66 (0, 0))) := (hb1.block _ (Array.getElem?_eq_some_iff.1 HX.out).1).trans HX.out; clear hb1 H1)
            | (go_at_call 54; refine (H2.out _ (FRow.below HR.out HB1.out)).mono ?_; rintro e w2 ⟨rfl, rfl⟩)
            | (have _h := H1; refine wpList_load_row rfl 66 _ rfl w.heap.size rfl 66 cs (0, 0) _ HX.out Tryd.underlying66 rfl (by rw [HZ.out]; exact Tryd.info66) ?_; clear _h))
          exact ⟨⟨k + 1, by omega, by go_num, HX1.out, HB1.out, HQ.out rfl⟩, by simp [intOf]; omega⟩
    · obtain rfl : k = 20 := by omega
      rw [show (((20 : Nat)) : Int) = 20 from rfl]
      have HFF : Hid (M = false) := HF.out HS.out
      clear HH HC HT HF HS
      go_wp2_with fail
      go_ret
      exact ⟨by rw [HFF.out]; rfl, HBL.out⟩
end Go.Proofs.YtaooidckmepdeaaDoor
