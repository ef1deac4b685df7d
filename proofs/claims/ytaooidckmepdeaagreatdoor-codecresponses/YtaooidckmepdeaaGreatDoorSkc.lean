/- Kb Wi Cs Hd Bx Be Kc Ro Fh Oa Bw Kd -/
import Derived.Test.YtaooidckmepdeaaGreatDoorSkb
import Derived.Laws.Rows
import Derived.Laws.Tables
import Derived.Laws.ResultCell
import Derived.Laws.AppendOwnNone
import Derived.WalkSpells
import Derived.Deep.Slices
import Derived.ChangeSlices
namespace Go.Proofs.YtaooidckmepdeaaGreatDoor
set_option linter.unusedSimpArgs false
set_option linter.unusedVariables false
open Go.RowKit
/-- Narrow to n bytes. -/
def narOk (n : Nat) (v : Int) : Bool := decide (0 ≤ v ∧ v < ((256 ^ n : Nat) : Int))
def narV (n : Nat) (v : Int) : Nat := if narOk n v = true then v.toNat else 0
theorem narV_le (n : Nat) (v : Int) (hn : n = 1 ∨ n = 2 ∨ n = 4) : narV n v ≤ 18446744073709551615 := by
  unfold narV narOk
  split
  · rename_i h
    simp only [decide_eq_true_eq] at h
    rcases hn with rfl | rfl | rfl <;> omega
  · omega
theorem nar_eNat (n : Nat) (v : Int) : eNat n v = if narOk n v = true then some (lay n (narV n v)) else none := by
  unfold eNat narV narOk
  by_cases h : 0 ≤ v ∧ v < ((256 ^ n : Nat) : Int)
  · rw [if_pos h, decide_eq_true h]; rfl
  · rw [if_neg h, decide_eq_false h]; rfl
theorem nar_of (n : Nat) (v : Int) (hn : n = 1 ∨ n = 2 ∨ n = 4) (Z : Int) (hZ : Z = 8 * (n : Int)) : narrowB v Z false = narOk n v ∧ narrowV v Z false = ((narV n v : Nat) : Int) := by
  have h1 : narrowB v Z false = narOk n v := by
    rcases hn with rfl | rfl | rfl <;> subst hZ <;> simp [narrowB, narOk, fitsIn]
  refine ⟨h1, ?_⟩
  unfold narrowV narV
  rw [h1]
  split
  · rename_i h
    simp only [narOk, decide_eq_true_eq] at h
    rcases hn with rfl | rfl | rfl <;> subst hZ <;> simp <;> omega
  · rfl
theorem nar_call (n : Nat) (v : Int) (hn : n = 1 ∨ n = 2 ∨ n = 4) (Z : Int) (hZ : Z = 8 * (n : Int)) (hv : In64 v) (w : World) :
    Calls Tryz.prog 44 #[.int .i64 v, .int .i64 Z, .bool false] w fun e w' => e = .returned (.tuple #[.int .u64 ((narV n v : Nat) : Int), .bool (narOk n v)]) ∧ w' = w := by
  have := narrow_any v Z false w hv.1 hv.2
  rw [(nar_of n v hn Z hZ).1, (nar_of n v hn Z hZ).2] at this
  exact this
theorem WrS.open {w0 w : World} {st : Ls} {N : Nat} (h : WrS w0 w st N) : ∃ a n c, w.cell? ⟨w0.heap.size, 0, none⟩ = some (.slice a n c) ∧ w.cell? ⟨w0.heap.size, 1, none⟩ = some (.bool st.isNone) ∧ w.frozen? ⟨w0.heap.size, 0, none⟩ = false ∧ w.frozen? ⟨w0.heap.size, 1, none⟩ = false ∧ w0.heap.size < w.heap.size := by
  obtain ⟨v, l, hx, ho, _⟩ := h.ex
  obtain ⟨a, c, rfl⟩ := own_slice ho
  exact ⟨a, l.length, c, (box_at hx 0).1, (box_at hx 1).1, (box_at hx 0).2, (box_at hx 1).2, (Array.getElem?_eq_some_iff.1 hx).1⟩
set_option maxHeartbeats 800000 in
set_option maxRecDepth 100000 in
theorem wnat_in (w0 w : World) (st st1 : Ls) (N n V : Nat) (Z K v : Int) (bad ok : Bool) (hb : bad = st.isNone) (h1 : (bad || !ok) = st1.isNone) (hst : ∀ L, st1 = some L → st = some L) (hK : IntKind.i64.wrap (8 * Z) = K) (h : WrS w0 w st N)
    (HN : Hid (∀ x, Calls Tryz.prog 44 #[.int .i64 v, .int .i64 K, .bool false] x fun e w' => e = .returned (.tuple #[.int .u64 (V : Int), .bool ok]) ∧ w' = x))
    (HP : Hid (∀ x, WrS w0 x st1 N → Calls Tryz.prog 45 #[.pointer (some ⟨w0.heap.size, 0, none⟩), .int .i64 Z, .int .u64 (V : Int)] x (WP w0 x (oa st1 (some (lay n V))) (N + 8)))) :
    Calls Tryz.prog 30 #[.pointer (some ⟨w0.heap.size, 0, none⟩), .int .i64 Z, .int .i64 v] w (WP w0 w (oa st1 (some (lay n V))) (N + 8)) := by
  obtain ⟨a, m, c, c0, c1, f0, f1, hz⟩ := h.open
  rw [← hb] at c1
  have HS : Hid _ := h.setBad st1 (bad || !ok) h1 hst
  clear h h1 hst hb
  generalize oa st1 (some (lay n V)) = st2 at *
  cases bad <;> cases ok
  all_goals
    simp only [Bool.not_true, Bool.not_false, Bool.or_true, Bool.or_false, Bool.true_or, Bool.false_or] at HS
    go_enter Tryz.func30, Tryz.ntmps30
    go_wp2_with (first
      | (go_at_call 44; refine (HN.out _).mono ?_; rintro e w1 ⟨rfl, rfl⟩)
      | (go_at_call 45; refine (HP.out _ HS.out.1).mono ?_; rintro e w2 ⟨rfl, hw2, hk2⟩))
    go_end0
    exact ⟨rfl, hw2, HS.out.2.trans hk2⟩
theorem wnat_any (w0 w : World) (st : Ls) (N n : Nat) (Z v : Int) (hZ : Z = n) (hn : n = 1 ∨ n = 2 ∨ n = 4) (hv : In64 v) (hN : N ≤ 900000000000) (h : WrS w0 w st N) :
    Calls Tryz.prog 30 #[.pointer (some ⟨w0.heap.size, 0, none⟩), .int .i64 Z, .int .i64 v] w (WP w0 w (oa st (eNat n v)) (N + 8)) := by
  have hK : IntKind.i64.wrap (8 * Z) = 8 * (n : Int) := by rw [IntKind.wrap_i64]; omega
  have HN : Hid (∀ x, Calls Tryz.prog 44 #[.int .i64 v, .int .i64 (8 * (n : Int)), .bool false] x fun e w' => e = .returned (.tuple #[.int .u64 ((narV n v : Nat) : Int), .bool (narOk n v)]) ∧ w' = x) := fun x => nar_call n v hn _ rfl hv x
  have HP : Hid (∀ st1 x, WrS w0 x st1 N → Calls Tryz.prog 45 #[.pointer (some ⟨w0.heap.size, 0, none⟩), .int .i64 Z, .int .u64 ((narV n v : Nat) : Int)] x (WP w0 x (oa st1 (some (lay n (narV n v)))) (N + 8))) := fun st1 x hx => wput_any w0 x st1 N n (narV n v) Z hZ hx (by omega) (narV_le n v hn) hN
  rw [nar_eNat]
  cases hok : narOk n v with
  | true =>
    rw [hok] at HN
    simp only [if_true]
    exact wnat_in w0 w st st N n _ Z _ v st.isNone true rfl (by simp) (fun _ e => e) hK h HN (fun x hx => HP.out st x hx)
  | false =>
    rw [hok] at HN
    simp only [Bool.false_eq_true, if_false, oa_none]
    exact wnat_in w0 w st none N n _ Z _ v st.isNone false rfl (by simp) (fun _ e => by cases e) hK h HN (fun x hx => HP.out none x hx)
theorem u64_un (v : Int) : IntKind.u64.wrap v = ((un v : Nat) : Int) := by
  rw [IntKind.wrap_u64]; unfold un; omega
set_option maxRecDepth 100000 in
theorem wnum_any (w0 w : World) (st : Ls) (N : Nat) (v : Int) (hN : N ≤ 900000000000) (h : WrS w0 w st N) :
    Calls Tryz.prog 71 #[.pointer (some ⟨w0.heap.size, 0, none⟩), .int .i64 v] w (WP w0 w (oa st (some (eInt v))) (N + 8)) := by
  have HP : Hid _ := wput_any w0 w st N 8 (un v) 8 rfl h (by omega) (by have := un_lt v; omega) hN
  have hu := u64_un v
  unfold eInt
  generalize oa st (some (lay 8 (un v))) = st2 at *
  generalize un v = u at *
  go_enter Tryz.func71, Tryz.ntmps71
  go_wp2_with (go_at_call 45; refine Calls.mono HP.out ?_; rintro e w2 ⟨rfl, hw2, hk2⟩)
  go_end0
  exact ⟨rfl, hw2, hk2⟩
set_option maxHeartbeats 800000 in
set_option maxRecDepth 100000 in
theorem wtext_any (w0 w : World) (st : Ls) (N : Nat) (s : ByteArray) (hs : s.size ≤ 9223372036854775807) (hN : N ≤ 800000000000) (h : WrS w0 w st N) :
    Calls Tryz.prog 72 #[.pointer (some ⟨w0.heap.size, 0, none⟩), .string s] w (WP w0 w (oa st (eText s)) (N + 65600)) := by
  have HP : Hid _ := wnat_any w0 w st N 2 2 (s.size : Int) rfl (by omega) ⟨by omega, by omega⟩ (by omega) h
  by_cases hl : s.size ≤ 65535
  · have e1 : eNat 2 (s.size : Int) = some (lay 2 s.size) := by unfold eNat; rw [if_pos ⟨by omega, by omega⟩, Int.toNat_natCast]
    have e2 : oa st (eText s) = oa (oa st (some (lay 2 s.size))) (some (sb s)) := by unfold eText; rw [if_pos hl, oa_assoc]; rfl
    rw [e1] at HP
    rw [e2]
    generalize oa st (some (lay 2 s.size)) = st1 at *
    have HLS : Hid ((sb s).length = s.size) := sb_len s
    have hlI : (s.size : Int) ≤ 65535 := by omega
    cases st1 with
    | none =>
      rw [none_oa]
      go_enter Tryz.func72, Tryz.ntmps72
      go_wp2_with (go_at_call 30; refine Calls.mono HP.out ?_; rintro e w1 ⟨rfl, hw1, hk1⟩; obtain ⟨a, m, c, c0, c1, f0, f1, hz⟩ := hw1.open; simp only [Option.isNone_none] at c1)
      go_end0
      exact ⟨rfl, hw1.mono (by omega), hk1⟩
    | some L1 =>
      go_enter Tryz.func72, Tryz.ntmps72
      go_wp2_with (first
        | (go_at_call 30; refine Calls.mono HP.out ?_; rintro e w1 ⟨rfl, hw1, hk1⟩; obtain ⟨⟨v, l, hx, ho, hbt, hl2, hs2⟩, bel⟩ := hw1; have HO : Hid (w1.ownsRow w0.heap.size 5 1 v l.length (cv l)) := ho; have HX : Hid (w1.heap[w0.heap.size]? = some (.cells #[v, .bool (some L1 : Ls).isNone] 90 (0, 0))) := hx; have HS : Hid (∀ L, some L1 = some L → l = L) := hs2; have HBL : Hid (Below w0.heap.size w0 w1) := bel; obtain ⟨a, c, rfl⟩ := own_slice ho; have c0 := (box_at hx 0).1; have c1 := (box_at hx 1).1; have f0 := (box_at hx 0).2; simp only [List.getElem?_toArray, List.getElem?_cons_zero, List.getElem?_cons_succ, Option.isNone_some] at c0 c1; clear ho hx hs2 bel)
        | (at_builtin; refine wpList_append_txt (by rfl) _ _ rfl w0.heap.size _ l rfl HO.out (HBL.out.size) s rfl (by omega) ?_; intro v' w2 ho2 hg2; obtain ⟨a2, c2, rfl⟩ := own_slice ho2; have HF : Hid _ := WrS.app (M := N + 65600) HX.out HO.out hbt hl2 HS.out HBL.out ho2 hg2 (sb_byt s) (by rw [HLS.out]; omega); have hq2 : Hid _ := (hg2.block w0.heap.size (Array.getElem?_eq_some_iff.1 HX.out).1 (fun e => own_box HO.out HX.out (by decide) _ e.symm rfl)).trans HX.out; have f2 := (box_at hq2.out 0).2; have d2 := (box_at hq2.out 0).1; simp only [List.getElem?_toArray, List.getElem?_cons_zero] at d2; clear ho2 hg2))
      go_end0
      have q := HF.out
      rw [List.length_append] at q
      exact ⟨rfl, q.1, hk1.trans q.2⟩
  · have e1 : eNat 2 (s.size : Int) = none := by unfold eNat; rw [if_neg (by omega)]
    have e2 : eText s = none := by unfold eText; rw [if_neg hl]
    rw [e1, oa_none] at HP
    rw [e2, oa_none]
    have hsI : (s.size : Int) ≤ 9223372036854775807 := by omega
    go_enter Tryz.func72, Tryz.ntmps72
    go_wp2_with (go_at_call 30; refine Calls.mono HP.out ?_; rintro e w1 ⟨rfl, hw1, hk1⟩; obtain ⟨a, m, c, c0, c1, f0, f1, hz⟩ := hw1.open; simp only [Option.isNone_none] at c1)
    go_end0
    exact ⟨rfl, hw1.mono (by omega), hk1⟩
end Go.Proofs.YtaooidckmepdeaaGreatDoor
namespace Go.Proofs.YtaooidckmepdeaaGreatDoor
set_option linter.unusedSimpArgs false
set_option linter.unusedVariables false
open Go.RowKit
/-- An array of bytes by value. -/
def av (h : List Nat) : Value := .agg (cv h).toArray
theorem number_in (h : List Nat) (at' size : Nat) (w : World) (hl : h.length = 48) (hb : ∀ i, h.getD i 0 < 256) (h1 : 1 ≤ size) (h2 : size ≤ 8) (h3 : at' + size ≤ 48) :
    Calls Tryz.prog 96 #[av h, .int .i64 at', .int .i64 size] w fun e w' => e = .returned (.int .i64 (wrap64 (getV h at' size true))) ∧ Below w.heap.size w w' := by
  have HG : Hid (∀ w', Row w' (some ⟨w.heap.size, 0, none⟩) h → Calls Tryz.prog 52 #[.slice (some ⟨w.heap.size, 0, none⟩) 48 48, .int .i64 at', .int .i64 size, .bool true] w' fun e w2 => e = .returned (.tuple #[.int .u64 (getV h at' size true : Nat), .bool true]) ∧ w2 = w') := by
    intro w' hr
    have := get_yes (some ⟨w.heap.size, 0, none⟩) 48 h at' size true w' hr (by rw [hl]; unfold maxLen; omega) h1 h2 (by omega)
    rw [hl] at this
    exact this
  have HR : Hid (Row (w.alloc (.cells (cv h).toArray 171)) (some ⟨w.heap.size, 0, none⟩) h) := by
    intro i hi
    refine ⟨w.heap.size, 0, rfl, ?_, hb i⟩
    rw [cell_of_row _ w.heap.size (0 + i) (cv h).toArray 171 (0, 0) (heap_alloc_new w _)]
    simpa using cv_get h i hi
  generalize getV h at' size true = V at *
  simp only [av]
  generalize (cv h).toArray = cs at *
  go_enter Tryz.func96, Tryz.ntmps96
  go_wp2_with (go_at_call 52; refine (HG.out _ HR.out).mono ?_; rintro e w1 ⟨rfl, hw⟩; subst w1)
  go_ret
  exact ⟨rfl, below_box _⟩
theorem row_arr (w : World) (h : List Nat) (hb : ∀ i, h.getD i 0 < 256) : Row (w.alloc (.cells (cv h).toArray 171)) (some ⟨w.heap.size, 0, none⟩) h := by
  intro i hi
  refine ⟨w.heap.size, 0, rfl, ?_, hb i⟩
  rw [cell_of_row _ w.heap.size (0 + i) (cv h).toArray 171 (0, 0) (heap_alloc_new w _)]
  simpa using cv_get h i hi
theorem two_bel {w w1 : World} {o o2 : Obj} (h : Below ((w.alloc o).alloc o2).heap.size ((w.alloc o).alloc o2) w1) : Below w.heap.size w w1 :=
  (((Below.refl _ _).alloc (Nat.le_refl _) o).alloc (by simp) o2).trans (h.mono (by simp; omega))
theorem two_new {w w1 : World} {o : Obj} {cs : Array Value} {t : TypeId} (h : Below ((w.alloc o).alloc (.cells cs t)).heap.size ((w.alloc o).alloc (.cells cs t)) w1) : w1.heap[w.heap.size + 1]? = some (.cells cs t (0, 0)) := by
  rw [h.block (w.heap.size + 1) (by simp)]
  have := heap_alloc_new (w.alloc o) (.cells cs t)
  simpa using this
theorem Tryz.info5s' : (Tryz.prog.info? 5).map (·.size) = some 1 := by kernel_rfl
theorem Tryz.info171 : (Tryz.prog.info? 171).map (·.size) = some 48 := by kernel_rfl
theorem arr_size {m : List Nat} (h : (cv m).length = 48) : (cv m).toArray.size = 48 := by simpa using h
theorem arr_one (m : List Nat) : (cv m).toArray.all (·.oneCell') = true := by
  rw [Array.all_eq_true']
  intro x hx
  exact cv_one m x (by simpa using hx)
theorem spliced {w : World} {g : Nat} {t : TypeId} {cur cs : List Value} (h : Hid (w.heap[g]? = some (.cells (splice cur 0 cs).toArray t (0, 0)))) (hl : cs.length = cur.length) : w.heap[g]? = some (.cells cs.toArray t (0, 0)) := by
  have := h.out
  rwa [splice_all _ _ hl.symm] at this
theorem results_one {fn : Func} {p : Tmp} {ty : TypeId} (h : fn.results = #[.cell p ty]) (tmps : Array Value) (P : Program) (w : World) :
    (results fn tmps).run P w = ((asAddr (tmps.getD p undef)).run P w).andThen fun a w₁ => (loadVar ty a).run P w₁ := by
  simp only [results, h]
  simp [Sem.run_bind, Result.andThen]
theorem results_arr {fn : Func} {p : Tmp} (h : fn.results = #[.cell p 171]) (tmps : Array Value) (w : World) (g : Nat) (cs : Array Value) (hp : tmps.getD p undef = .pointer (some ⟨g, 0, none⟩)) (hi : (Tryz.prog.info? 171).map (·.size) = some cs.size) (hg : w.heap[g]? = some (.cells cs 171 (0, 0))) :
    (results fn tmps).run Tryz.prog w = .ok (.agg cs) w := by
  have h2 := run_loadVar_row (P := Tryz.prog) w g 171 171 cs (0, 0) _ hg Tryz.underlying171 rfl hi
  rw [results_one h, hp]
  simp [asAddr, h2, Result.andThen]
set_option maxRecDepth 100000 in
theorem with_in (h : List Nat) (at' size V : Nat) (w : World) (hl : h.length = 48) (hb : ∀ i, h.getD i 0 < 256) (h1 : 1 ≤ size) (h2 : size ≤ 8) (h3 : at' + size ≤ 48) (hV : V ≤ 9223372036854775807) :
    Calls Tryz.prog 102 #[av h, .int .i64 at', .int .i64 size, .int .i64 V] w fun e w' => e = .returned (av (putL h at' size true V)) ∧ Below w.heap.size w w' := by
  have HG : Hid (∀ w', Row w' (some ⟨w.heap.size, 0, none⟩) h → Calls Tryz.prog 68 #[.slice (some ⟨w.heap.size, 0, none⟩) 48 48, .int .i64 at', .int .i64 size, .bool true, .int .u64 V] w' fun e w2 =>
      (∃ g, e = .returned (.tuple #[.slice (some ⟨g, 0, none⟩) 48 48, .bool true]) ∧ Own w'.heap.size w2 g 48 (putL h at' size true V)) ∧ Below w'.heap.size w' w2) := by
    intro w' hr
    have := put_yes (some ⟨w.heap.size, 0, none⟩) 48 h at' size true V w' hr (by rw [hl]; omega) h1 h2 (by omega) (by omega)
    rw [hl] at this
    exact this
  have HR : Hid _ := row_arr w h hb
  have hwv : IntKind.u64.wrap (V : Int) = (V : Int) := by rw [IntKind.wrap_u64]; omega
  have HML : Hid ((cv (putL h at' size true V)).length = 48) := by show _ = _; rw [cv_length, putL_length, hl]
  have HMB : Hid (∀ i, (putL h at' size true V).getD i 0 < 256) := putL_lt h at' size true V hb
  generalize putL h at' size true V = m at *
  simp only [av]
  generalize (cv h).toArray = cs at *
  go_enter Tryz.func102, Tryz.ntmps102
  go_wp2_with (first
    | (go_at_call 68; refine (HG.out _ (Row.below HR.out (below_box _))).mono ?_; rintro e w1 ⟨⟨g, rfl, hown⟩, hb1⟩; have HB1 : Hid (Below w.heap.size w w1) := two_bel hb1; have hcur := two_new hb1; have hrow := hown.row HMB.out; clear hb1 HG HR)
    | (have _t := hcur; refine wpList_copy_splice rfl (.tmp 20) (.tmp 21) 22 22 rfl 5 Tryz.underlying22 Tryz.info5s' _ _ _ _ _ _ rfl rfl (w.heap.size + 1) 0 (List.replicate 48 (.int .u8 0)) 171 hcur (cv m) (by rw [HML.out]; rfl) (fun h0 => ⟨rfl, row_src hrow h0⟩) (by rw [HML.out]; simp) (cv_one _) w.heap.size w HB1.out (by omega) ?_; clear hcur _t hrow hown; intro w2 HG2 hB2; have HF : Hid _ := spliced HG2 (by rw [HML.out]; simp); clear HG2)
    | (have _t := HF; refine wpList_load_row rfl 171 _ rfl (w.heap.size + 1) rfl 171 (cv m).toArray (0, 0) _ HF.out Tryz.underlying171 rfl (by rw [arr_size HML.out]; exact Tryz.info171) ?_)
    | (have _t := HF; refine wpList_store_row rfl 171 _ _ rfl (w.heap.size + 1) (cv m).toArray rfl rfl 171 (cv m).toArray HF.out (by rw [arr_size HML.out]; exact Tryz.info171) rfl (arr_one m) ?_))
  refine bodyPost_ret (v := .agg (cv m).toArray) ?_ rfl ⟨rfl, ?_⟩
  · exact results_arr (p := 8) (by rfl) _ _ (w.heap.size + 1) _ (by rfl) (by rw [arr_size HML.out]; exact Tryz.info171) (setRow_heap _ _ _ _ _ _ HF.out)
  · exact below_setRow (by assumption) (by omega) _
theorem splice_join (Z H B : List Value) (hz : Z.length = H.length + B.length) : splice (splice Z 0 H) H.length B = H ++ B := by
  unfold splice
  simp
  omega
theorem cutA_at {g n : Nat} {cl : List Value} {l : List Nat} (h0 : 0 < cl.length) (hl : cl.length = l.length) (hn : n - 48 = l.length) : cutA (some ⟨g, 0, none⟩) n 48 = some ⟨g, 48, none⟩ := by
  unfold cutA
  rw [if_neg (by omega)]
  rfl
/-- What was there ahead of a block of one's own is there still, whatever is written into that. -/
theorem row_kept {w0 w1 w2 : World} {a : Option Addr} {l : List Nat} {M : Nat} (h0 : Row w0 a l) (h : Row w1 a l) (hb : Below M w1 w2) (hM : w0.heap.size = M) : Row w2 a l := by
  intro i hi
  obtain ⟨b, off, e, hc, hl⟩ := h0 i hi
  obtain ⟨b', off', e', hc', _⟩ := h i hi
  rw [e] at e'
  simp only [Option.some.injEq, Addr.mk.injEq, and_true] at e'
  obtain ⟨rfl, rfl⟩ := e'
  have hlt := World.block_lt_of_cell? _ _ hc
  exact ⟨b, off, e, by rw [hb.cell (by simp only at hlt ⊢; omega)]; exact hc', hl⟩
set_option maxHeartbeats 800000 in
set_option maxRecDepth 100000 in
theorem bjoin_any (h : List Nat) (a : Option Addr) (cap : Nat) (l : List Nat) (w : World) (hl : h.length = 48) (hb : ∀ i, h.getD i 0 < 256) (hr : Row w a l) (hm : l.length ≤ 1000000) :
    Calls Tryz.prog 104 #[av h, .slice a l.length cap] w fun e w' => ∃ g, e = .returned (.slice (some ⟨g, 0, none⟩) (h ++ l).length (h ++ l).length) ∧ Own w.heap.size w' g (h ++ l).length (h ++ l) ∧ Below w.heap.size w w' := by
  obtain ⟨i0, hi, hz0, hz1, hz2⟩ := info_parts Tryz.info5
  have HR : Hid (Row (w.alloc (.cells (cv h).toArray 171)) (some ⟨w.heap.size, 0, none⟩) h) := row_arr w h hb
  have HRL : Hid (Row (w.alloc (.cells (cv h).toArray 171)) a l) := hr.below (below_box _)
  obtain ⟨n, HN⟩ : ∃ n, Hid ((h ++ l).length = n) := ⟨_, rfl⟩
  have hn : n = 48 + l.length := by rw [← HN.out, List.length_append, hl]
  have HH : Hid ((cv h).length = 48) := by show _ = _; rw [cv_length, hl]
  have HL : Hid ((cv l).length = l.length) := cv_length l
  have HA : Hid (cv h ++ cv l = cv (h ++ l)) := (cv_append h l).symm
  have hwn : IntKind.i64.wrap (48 + (l.length : Int)) = (n : Int) := by rw [IntKind.wrap_i64]; omega
  have hw2 : (48 : Int) + (l.length : Int) = (n : Int) := by omega
  rw [HN.out]
  have hn48 : (48 : Int) ≤ (n : Int) := by omega
  have hnm : n ≤ 1000048 := by omega
  have HNL : Hid (n - 48 = l.length) := by show _ = _; omega
  have hB0 : Below w.heap.size w (w.alloc (.cells (cv h).toArray 171)) := below_box _
  clear hr hb hl
  simp only [av]
  generalize (cv h).toArray = cs at *
  generalize hch : cv h = ch at *
  have HCH : Hid (cv h = ch) := hch
  clear hch
  generalize hcl : cv l = cl at *
  have HCL : Hid (cv l = cl) := hcl
  clear hcl hm hn
  have ks : ∀ w', (Instr.slice 22 (.slice (some ⟨w.heap.size + 1, 0, none⟩) n n) (some (.int .i64 48)) none none).run Tryz.prog w' = .ok (.slice (cutA (some ⟨w.heap.size + 1, 0, none⟩) n 48) (n - 48) (n - 48)) w' := fun w' => run_slice_from w' _ n n 48 .i64 (by omega)
  have tok : True := trivial
  have hsz : (w.alloc (.cells cs 171)).heap.size = w.heap.size + 1 := by simp
  go_enter Tryz.func104, Tryz.ntmps104
  go_wp2_with (first
    | (at_make; refine wpList_make_full _ rfl _ _ 22 rfl (w.heap.size + 1) 5 i0 (.int .u8 0) 1 Tryz.underlying22 hi hz0 hz1 .i64 .i64 _ _ n rfl rfl rfl rfl (by rw [hz2]; omega) (by unfold maxLen; omega) (by simp) ?_; intro w1 hown hg; rw [hsz] at hown ⊢; obtain ⟨cur, hcur, hlen⟩ := made_blk hown; have hbel := below_made hg; have HB1 : Hid (Below w.heap.size w w1) := hB0.trans (hbel.mono (by simp)); have HR1 : Hid (Row w1 (some ⟨w.heap.size, 0, none⟩) h) := Row.below HR.out hbel; have HRL1 : Hid (Row w1 a l) := Row.below HRL.out hbel; have HLn : Hid (cur.length = n) := hlen; clear hlen hown hg hbel)
    | (have _t := tok; refine wpList_copy_splice rfl (.tmp 9) (.tmp 10) 22 22 rfl 5 Tryz.underlying22 Tryz.info5s' _ _ _ _ _ _ rfl rfl (w.heap.size + 1) 0 cur 5 hcur ch (by rw [HH.out]; show 48 = min 48 n; omega) (fun h0 => ⟨rfl, by rw [← HCH.out] at h0 ⊢; exact row_src HR1.out h0⟩) (by rw [HH.out, HLn.out]; omega) (by rw [← HCH.out]; exact cv_one _) (w.heap.size + 1) w1 (Below.refl _ _) (Nat.le_refl _) ?_; clear _t tok; intro w2 HG2 hB2; have HRL2 : Hid (Row w2 a l) := row_kept HRL.out HRL1.out hB2 hsz; have HB2 : Hid (Below w.heap.size w w2) := HB1.out.trans (hB2.mono (by omega)); have HLn2 : Hid ((splice cur 0 ch).length = n) := (by show _ = _; rw [length_splice _ _ _ (by rw [HH.out, HLn.out]; omega)]; exact HLn.out); clear hcur hB2)
    | (refine wpList_copy_splice rfl (.tmp 13) (.tmp 14) 22 22 rfl 5 Tryz.underlying22 Tryz.info5s' _ _ _ _ _ _ rfl rfl (w.heap.size + 1) 48 (splice cur 0 ch) 5 HG2.out cl (by rw [HL.out]; show l.length = min l.length (n - 48); rw [HNL.out]; exact (Nat.min_self _).symm) (fun h0 => ⟨cutA_at h0 HL.out HNL.out, by rw [← HCL.out] at h0 ⊢; exact row_src HRL2.out h0⟩) (by rw [HL.out, HLn2.out, ← HNL.out]; omega) (by rw [← HCL.out]; exact cv_one _) w.heap.size w HB2.out (by omega) ?_; intro w3 HG3 hB3))
  go_ret
  refine ⟨w.heap.size + 1, rfl, own_of (by omega) HN.out.symm (by unfold maxLen; omega) ?_ HG3.out, by assumption⟩
  rw [← HA.out]
  have := splice_join cur ch cl (by rw [HLn.out, HH.out, HL.out, ← HNL.out]; omega)
  rw [HH.out] at this
  exact this
end Go.Proofs.YtaooidckmepdeaaGreatDoor
namespace Go.Proofs.YtaooidckmepdeaaGreatDoor
set_option linter.unusedSimpArgs false
set_option linter.unusedVariables false
open Go.RowKit
theorem xor_lt32 {a b : Nat} (h : a < 4294967296) (h2 : b < 4294967296) : a ^^^ b < 4294967296 := Nat.xor_lt_two_pow (n := 32) h h2
theorem xor32 (a b : Nat) (h : a < 4294967296) (h2 : b < 4294967296) : bits .xor .u32 (a : Int) (b : Int) = ((a ^^^ b : Nat) : Int) := u32_xor_nat a b h h2
theorem drop_cons (l : List Nat) (k : Nat) (h : k < l.length) : l.drop k = l.getD k 0 :: l.drop (k + 1) := by
  rw [List.drop_eq_getElem_cons h]; simp [List.getD, h]
theorem reg_drop (c : Nat) (l : List Nat) (k : Nat) (h : k < l.length) : P.reg c (l.drop k) = P.reg (P.stp c (l.getD k 0)) (l.drop (k + 1)) := by
  rw [drop_cons l k h]; rfl
theorem ones_xor (c : Nat) (h : c < 4294967296) : bits .xor .u32 IntKind.u32.max (c : Int) = ((P.ones ^^^ c : Nat) : Int) := xor32 4294967295 c (by decide) h
theorem Row.bd {w : World} {a : Option Addr} {l : List Nat} (h : Row w a l) : ∀ x, x ∈ l → x < 256 := by
  intro x hx
  obtain ⟨i, hi, rfl⟩ := List.getElem_of_mem hx
  obtain ⟨_, _, _, _, hl⟩ := h i hi
  simpa [List.getD, hi] using hl
theorem more_lt (c : Nat) (l : List Nat) (hc : c < 4294967296) (hl : ∀ x, x ∈ l → x < 256) : P.more c l < 4294967296 :=
  xor_lt32 (by decide) (P.reg_lt l _ (xor_lt32 (by decide) hc) hl)
/-- The table: what becomes of each four digits. -/
def Tab (w : World) : Prop := ∀ i, i < 16 → w.cell? ⟨0, i, none⟩ = some (.int .u32 ((P.shN 4 i : Nat) : Int))
theorem Tab.below {w w' : World} (h : Tab w) (hb : Below w.heap.size w w') : Tab w' := by
  intro i hi
  rw [hb.cell (World.block_lt_of_cell? _ _ (h i hi))]; exact h i hi
theorem Tab.drewN {w : World} (h : Tab w) (n : Nat) : Tab (w.drewN n) := h
theorem nib (c : Nat) : c / 16 ^^^ P.shN 4 (c % 16) = P.shN 4 c := by
  have h1 : c = 2 ^ 4 * (c / 16) ^^^ c % 16 := by
    have hy : c % 16 < 2 ^ 4 := Nat.mod_lt _ (by decide)
    have := Nat.two_pow_add_eq_or_of_lt hy (c / 16)
    have h0 : 2 ^ 4 * (c / 16) + c % 16 = c := Nat.div_add_mod c 16
    rw [this] at h0
    apply Nat.eq_of_testBit_eq
    intro i
    have e := congrArg (·.testBit i) h0
    simp only [Nat.testBit_or] at e
    rw [← e, Nat.testBit_xor, Nat.testBit_two_pow_mul]
    by_cases hi : 4 ≤ i
    · have : (c % 16).testBit i = false := Nat.testBit_lt_two_pow (Nat.lt_of_lt_of_le hy (Nat.pow_le_pow_right (n := 2) (by decide) hi))
      simp [this]
    · simp [hi]
  conv => rhs; rw [h1, P.shN_xor, P.shN_pow]
theorem and15 (c : Nat) (h : c < 4294967296) : bits .and .u32 (c : Int) 15 = ((c % 16 : Nat) : Int) := by
  have := u32_and_nat c 15 h (by decide)
  rw [nat_mask4] at this
  exact this
theorem nibI (c : Nat) (h : c < 4294967296) : bits .xor .u32 ((c : Int) / 16) ((P.shN 4 (c % 16) : Nat) : Int) = ((P.shN 4 c : Nat) : Int) := by
  have := xor32 (c / 16) (P.shN 4 (c % 16)) (by omega) (P.shN_lt _ _ (by omega))
  rw [nib] at this
  exact this
theorem more_any (c : Nat) (a : Option Addr) (cap : Nat) (l : List Nat) (w : World) (ht : Tab w) (hc : c < 4294967296) (hr : Row w a l) (hl : l.length ≤ maxLen) :
    Calls Tryz.prog 103 #[.int .u32 c, .slice a l.length cap] w fun e w' => e = .returned (.int .u32 ((P.more c l : Nat) : Int)) ∧ w' = w := by
  unfold maxLen at hl
  obtain ⟨out, HO⟩ : ∃ out, Hid (P.reg (P.ones ^^^ c) l = out) := ⟨_, rfl⟩
  have HM : Hid (P.more c l = P.ones ^^^ out) := by show _ = _; rw [P.more, HO.out]
  rw [HM.out]
  have ho := ones_xor c hc
  have hol : P.ones ^^^ c < 4294967296 := xor_lt32 (by decide) hc
  generalize P.ones ^^^ c = d at *
  clear HM
  go_enter Tryz.func103, Tryz.ntmps103
  go_wp2
  go_loop [0, 11] (fun v i => ∃ (k C : Nat), k ≤ l.length ∧ v = .int .u32 C ∧ i = .int .i64 k ∧ C < 4294967296 ∧ P.reg C (l.drop k) = out) (fun _ i => l.length - (intOf i).toNat)
  case atStart => exact ⟨0, d, by omega, rfl, rfl, hol, by simpa using HO.out⟩
  case round =>
    obtain ⟨k, C, hk, rfl, rfl, hC, hs⟩ := hrel
    by_cases hlt : k < l.length
    · obtain ⟨b, off, rfl, hcell, hx⟩ := hr k hlt
      rw [reg_drop C l k hlt] at hs
      have hS := P.stp_lt C _ hC hx
      have HS : Hid (P.reg (P.stp C (l.getD k 0)) (l.drop (k + 1)) = out) := hs
      have hltI : (k : Int) < (l.length : Int) := by omega
      clear hs hr
      generalize l.getD k 0 = x at *
      have hX := xor32 C x hC (by omega)
      have hXl := xor_lt32 hC (show x < 4294967296 by omega)
      have HE : Hid (P.stp C x = P.shN 4 (P.shN 4 (C ^^^ x))) := by show _ = _; rw [← P.shN_add]; rfl
      generalize C ^^^ x = y at *
      have hY := nibI y hXl
      have hYl := P.shN_lt 4 y hXl
      have hY2 := and15 y hXl
      have hYc := ht (y % 16) (by omega)
      have hYm : y % 16 < 16 := by omega
      rw [HE.out] at HS hS
      generalize P.shN 4 (y % 16) = t1 at *
      generalize P.shN 4 y = z at *
      generalize y % 16 = y16 at *
      have hZ := nibI z hYl
      have hZ2 := and15 z hYl
      have hZc := ht (z % 16) (by omega)
      have hZm : z % 16 < 16 := by omega
      generalize P.shN 4 (z % 16) = t2 at *
      generalize P.shN 4 z = D at *
      generalize z % 16 = z16 at *
      clear ht HE
      go_wp2
      exact ⟨⟨k + 1, D, by omega, by go_num, by go_num, hS, HS.out⟩, by simp [intOf]; omega⟩
    · obtain rfl : k = l.length := by omega
      have HN : Hid (C = out) := by show _ = _; rw [← hs, List.drop_length]; rfl
      have h2 := ones_xor C hC
      clear hs hr
      go_wp2
      go_ret
      exact ⟨retI (by rw [HN.out]), rfl⟩
theorem sum_any (a : Option Addr) (cap : Nat) (l : List Nat) (w : World) (ht : Tab w) (hr : Row w a l) (hl : l.length ≤ maxLen) :
    Calls Tryz.prog 97 #[.slice a l.length cap] w fun e w' => e = .returned (.int .u32 ((P.sum l : Nat) : Int)) ∧ w' = w := by
  go_enter Tryz.func97, Tryz.ntmps97
  go_wp2_with (go_at_call 103; refine (more_any 0 _ _ _ _ ht (by decide) hr hl).mono ?_; rintro e w' ⟨rfl, rfl⟩)
  go_ret
  exact ⟨rfl, rfl⟩
end Go.Proofs.YtaooidckmepdeaaGreatDoor
namespace Go.Proofs.YtaooidckmepdeaaGreatDoor
set_option linter.unusedSimpArgs false
set_option linter.unusedVariables false
open Go.RowKit
/-- A head. -/
def hd (b l s p q n c f : Nat) : List Nat := lay 8 b ++ (lay 4 l ++ (lay 4 s ++ (lay 8 p ++ (lay 8 q ++ (lay 4 n ++ (lay 4 c ++ lay 8 f))))))
theorem hd_zero : hd 0 0 0 0 0 0 0 0 = List.replicate 48 0 := by decide +kernel
theorem hd_len (b l s p q n c f : Nat) : (hd b l s p q n c f).length = 48 := by simp [hd, lay_len]
theorem hd_mem (b l s p q n c f : Nat) : ∀ x, x ∈ hd b l s p q n c f → x < 256 := by
  intro x hx
  simp only [hd, List.mem_append] at hx
  rcases hx with hx | hx | hx | hx | hx | hx | hx | hx <;> exact lay_mem _ _ x hx
theorem put_at {h A B C : List Nat} (i n V : Nat) (e : h = A ++ (B ++ C)) (hA : A.length = i) (hB : B.length = n) : putL h i n true V = A ++ (lay n V ++ C) := by
  rw [e, ← hA, put_mid A B C n V hB]
theorem hd_base (b l s p q n c f V : Nat) : putL (hd b l s p q n c f) 0 8 true V = hd V l s p q n c f := put_at (A := []) 0 8 V rfl rfl (lay_len _ _)
theorem hd_length (b l s p q n c f V : Nat) : putL (hd b l s p q n c f) 8 4 true V = hd b V s p q n c f := put_at (A := lay 8 b) 8 4 V rfl (lay_len _ _) (lay_len _ _)
theorem hd_sum (b l s p q n c f V : Nat) : putL (hd b l s p q n c f) 12 4 true V = hd b l V p q n c f := by
  rw [put_at (A := lay 8 b ++ lay 4 l) (B := lay 4 s) (C := lay 8 p ++ (lay 8 q ++ (lay 4 n ++ (lay 4 c ++ lay 8 f)))) 12 4 V (by simp [hd]) (by simp [lay_len]) (lay_len _ _)]
  simp [hd]
theorem hd_prod (b l s p q n c f V : Nat) : putL (hd b l s p q n c f) 16 8 true V = hd b l s V q n c f := by
  rw [put_at (A := lay 8 b ++ (lay 4 l ++ lay 4 s)) (B := lay 8 p) (C := lay 8 q ++ (lay 4 n ++ (lay 4 c ++ lay 8 f))) 16 8 V (by simp [hd]) (by simp [lay_len]) (lay_len _ _)]
  simp [hd]
theorem hd_seq (b l s p q n c f V : Nat) : putL (hd b l s p q n c f) 24 8 true V = hd b l s p V n c f := by
  rw [put_at (A := lay 8 b ++ (lay 4 l ++ (lay 4 s ++ lay 8 p))) (B := lay 8 q) (C := lay 4 n ++ (lay 4 c ++ lay 8 f)) 24 8 V (by simp [hd]) (by simp [lay_len]) (lay_len _ _)]
  simp [hd]
theorem hd_span (b l s p q n c f V : Nat) : putL (hd b l s p q n c f) 32 4 true V = hd b l s p q V c f := by
  rw [put_at (A := lay 8 b ++ (lay 4 l ++ (lay 4 s ++ (lay 8 p ++ lay 8 q)))) (B := lay 4 n) (C := lay 4 c ++ lay 8 f) 32 4 V (by simp [hd]) (by simp [lay_len]) (lay_len _ _)]
  simp [hd]
theorem hd_cnt (b l s p q n c f V : Nat) : putL (hd b l s p q n c f) 36 4 true V = hd b l s p q n V f := by
  rw [put_at (A := lay 8 b ++ (lay 4 l ++ (lay 4 s ++ (lay 8 p ++ (lay 8 q ++ lay 4 n))))) (B := lay 4 c) (C := lay 8 f) 36 4 V (by simp [hd]) (by simp [lay_len]) (lay_len _ _)]
  simp [hd]
theorem hd_first (b l s p q n c f V : Nat) : putL (hd b l s p q n c f) 40 8 true V = hd b l s p q n c V := by
  rw [put_at (A := lay 8 b ++ (lay 4 l ++ (lay 4 s ++ (lay 8 p ++ (lay 8 q ++ (lay 4 n ++ lay 4 c)))))) (B := lay 8 f) (C := []) 40 8 V (by simp [hd]) (by simp [lay_len]) (lay_len _ _)]
  simp [hd]
theorem hd_drop (b l s p q n c f : Nat) : (hd b l s p q n c f).drop 16 = midL p q n c f := by
  have : hd b l s p q n c f = headL b l s ++ midL p q n c f := by simp [hd, headL, midL]
  rw [this]
  exact List.drop_left' (head_len _ _ _)
theorem hd_enc (b : Ba) : hd b.base.toNat ((tailL b).length + 4) (P.sum (tailL b)) b.prod.toNat b.seq.toNat b.span.toNat b.rs.length (frs b).toNat ++ bodyL b.rs (frs b) = encBL b := by
  simp [hd, encBL, headL, tailL, midL]
/-- One more number. -/
def Sets (h h' : List Nat) (i n V : Nat) : Prop := ∀ w, Calls Tryz.prog 102 #[av h, .int .i64 (i : Int), .int .i64 (n : Int), .int .i64 (V : Int)] w fun e w' => e = .returned (av h') ∧ Below w.heap.size w w'
theorem sets_of {b l s p q n c f : Nat} {h' : List Nat} {i k V : Nat} (hp : putL (hd b l s p q n c f) i k true V = h') (h1 : 1 ≤ k) (h2 : k ≤ 8) (h3 : i + k ≤ 48) (hV : V ≤ 9223372036854775807) : Sets (hd b l s p q n c f) h' i k V := fun w => by
  rw [← hp]
  exact with_in _ i k V w (hd_len _ _ _ _ _ _ _ _) (lt_mem (hd_mem _ _ _ _ _ _ _ _)) h1 h2 h3 hV
theorem owns_below {w w' : World} {base e size n : Nat} {v : Value} {xs : List Value} (h : w.ownsRow base e size v n xs) (hb : Below w.heap.size w w') : w'.ownsRow base e size v n xs := by
  refine ⟨h.1, ?_⟩
  rcases h.2 with q | ⟨g, cap, cur, e1, hB, hg, r⟩
  · exact .inl q
  · exact .inr ⟨g, cap, cur, e1, hB, (hb.block g (Array.getElem?_eq_some_iff.1 hg).1).trans hg, r⟩
theorem body_take (rs : List Rc) (first : Int) (k : Nat) (h : k < rs.length) : bodyL (rs.take (k + 1)) first = bodyL (rs.take k) first ++ encL (rs.getD k rz) first := by
  rw [List.take_succ_eq_append_getElem h, body_app, body_cons, body_nil, List.append_nil]
  simp [List.getD, h]
/-- A record whose bytes are made. -/
def Enc (f : Nat) (r : Rc) (first : Int) : Prop := ∀ w, Calls Tryz.prog f #[.agg r.cells, .int .i64 first] w fun e w' => ∃ a c, e = .returned (.tuple #[.slice a (encL r first).length c, .int .i64 0]) ∧ Row w' a (encL r first) ∧ (a = none → c = 0) ∧ Below w.heap.size w w'
theorem enc_of {r : Rc} {first : Int} (hc : chk r = 0) (hf : timeB first = true) : Enc 113 r first := fun w => by
  have hE : encE r first = 0 := by simp [encE, hc, hf]
  have hR : encR r first = encL r first := by simp [encR, hE]
  refine (encode_any r first w).mono ?_
  rintro e w' ⟨v, rfl, hown, hb⟩
  rw [hR] at hown
  obtain ⟨a, c, rfl, hr, hn⟩ := owns_sl hown (encL_lt r first hc hf)
  exact ⟨a, c, by rw [hE], hr, hn, hb⟩
set_option maxHeartbeats 800000 in
set_option maxRecDepth 100000 in
theorem body_any (a : Option Addr) (cap : Nat) (rs : List Rc) (first : Int) (w : World) (hr : RRow w a rs) (hl : rs.length ≤ 100) (hc : ∀ r, r ∈ rs → chk r = 0) (hf : timeB first = true) :
    Calls Tryz.prog 101 #[.slice a rs.length cap, .int .i64 first] w fun e w' => ∃ v, e = .returned v ∧ w'.ownsRow w.heap.size 5 1 v (bodyL rs first).length (cv (bodyL rs first)) ∧ Below w.heap.size w w' := by
  obtain ⟨F, HF⟩ : ∃ F : Nat → List Nat, Hid (∀ k, bodyL (rs.take k) first = F k) := ⟨_, fun _ => rfl⟩
  have HS : Hid (∀ k, k < rs.length → F (k + 1) = F k ++ encL (rs.getD k rz) first) := fun k hk => by rw [← HF.out, ← HF.out]; exact body_take rs first k hk
  have hF0 : F 0 = [] := by rw [← HF.out]; rfl
  have HA : Hid (F rs.length = bodyL rs first) := by show _ = _; rw [← HF.out, List.take_length]
  have HFl : Hid (∀ k, (F k).length ≤ 500000) := fun k => by
    rw [← HF.out]
    refine Nat.le_trans (body_len first (fun r hr => hc r (List.mem_of_mem_take hr))) ?_
    rw [List.length_take]
    omega
  have HEn : Hid (∀ k, k < rs.length → Enc 113 (rs.getD k rz) first) := fun k hk => enc_of (hc _ (getD_mem hk)) hf
  have HEL : Hid (∀ k, k < rs.length → (encL (rs.getD k rz) first).length ≤ 5000) := fun k hk => by
    obtain ⟨_, _, _, _, k1, v1, _⟩ := chk_ok (hc _ (getD_mem hk))
    exact encL_len _ first k1 v1
  rw [← HA.out]
  have HR0 : Hid (RRow w a rs) := hr
  clear hc hf hr
  go_enter Tryz.func101, Tryz.ntmps101
  go_wp2_with fail
  go_loopw [4, 11] (fun v i wr => ∃ k : Nat, k ≤ rs.length ∧ i = .int .i64 k ∧ wr.ownsRow w.heap.size 5 1 v (F k).length (cv (F k)) ∧ Below w.heap.size w wr) (fun _ i _ => rs.length - (intOf i).toNat)
  case atStart => exact ⟨0, by omega, rfl, by rw [hF0]; exact World.ownsRow_nil _ _ _ _, Below.refl _ _⟩
  case round =>
    obtain ⟨k, hk, rfl, hown, hb⟩ := hrel
    by_cases hlt : k < rs.length
    · have hltI : (k : Int) < (rs.length : Int) := by omega
      have HE := HEn.out k hlt
      have HL : Hid (F (k + 1) = F k ++ encL (rs.getD k rz) first) := HS.out k hlt
      have h5 := HFl.out k
      have h6 := HEL.out k hlt
      obtain ⟨b, off, rfl, z0, z1, z2, z3, z4, z5⟩ := (RRow.below HR0.out hb) k hlt
      have hbz := World.block_lt_of_cell? _ _ z0
      simp only at hbz
      have HBB : Hid (∀ cs, Below wr.heap.size wr (wr.alloc (.cells cs 84))) := fun cs => below_box _
      have hz3 : w.heap.size ≤ wr.heap.size := hb.size
      unfold Enc at HE
      generalize rs.getD k rz = r at *
      generalize encL r first = L at *
      have HEn2 : Hid _ := HE
      clear HE
      obtain ⟨hk', kk, hv, v, t, o⟩ := r
      simp only at z0 z1 z2 z3 z4 z5
      simp only [Rc.cells] at HEn2
      go_wp2_with (first
        | (go_at_call 113; refine (HEn2.out _).mono ?_; rintro e w4 ⟨a4, c4, rfl, hr4, hn4, hb4⟩; have hown4 := owns_below hown ((HBB.out _).trans (hb4.mono (by simp))); have hbel4 := hb.trans (((HBB.out _).trans (hb4.mono (by simp))).mono hz3); have HZ4 := hbel4.size; clear hb4)
        | (at_builtin; refine wpList_append_row (by rfl) _ _ rfl w.heap.size w _ _ _ rfl hown4 hbel4 HZ4 a4 c4 L rfl hr4 hn4 (by omega) ?_; intro v5 w5 hown5 hbel5))
      refine ⟨⟨k + 1, by omega, by go_num, by rw [HL.out, List.length_append, cv_append]; exact hown5, hbel5⟩, by simp [intOf]; omega⟩
    · obtain rfl : k = rs.length := by omega
      go_wp2_with fail
      go_ret
      exact ⟨_, rfl, hown, hb⟩
end Go.Proofs.YtaooidckmepdeaaGreatDoor
namespace Go.Proofs.YtaooidckmepdeaaGreatDoor
set_option linter.unusedSimpArgs false
set_option linter.unusedVariables false
open Go.RowKit
/-- The batch in its box. -/
def bcells (b : Ba) (a : Option Addr) (cap : Nat) : Array Value := #[.int .i64 b.base, .int .i64 b.span, .int .i64 b.prod, .int .i64 b.seq, .slice a b.rs.length cap]
structure BxS (w : World) (cs : Array Value) (x : World) : Prop where
  box : x.heap[w.heap.size]? = some (.cells cs 88 (0, 0))
  bel : Below w.heap.size w x
theorem BxS.new (w : World) (cs : Array Value) : BxS w cs (w.alloc (.cells cs 88)) := ⟨heap_alloc_new w _, below_box _⟩
theorem BxS.below {w x y : World} {cs : Array Value} (h : BxS w cs x) (hb : Below x.heap.size x y) : BxS w cs y :=
  ⟨(hb.block _ (Array.getElem?_eq_some_iff.1 h.box).1).trans h.box, h.bel.trans (hb.mono h.bel.size)⟩
theorem BxS.cells {w x : World} {b : Ba} {a : Option Addr} {cap : Nat} (h : BxS w (bcells b a cap) x) :
    x.cell? ⟨w.heap.size, 0, none⟩ = some (.int .i64 b.base) ∧ x.cell? ⟨w.heap.size, 1, none⟩ = some (.int .i64 b.span) ∧ x.cell? ⟨w.heap.size, 2, none⟩ = some (.int .i64 b.prod) ∧ x.cell? ⟨w.heap.size, 3, none⟩ = some (.int .i64 b.seq) ∧ x.cell? ⟨w.heap.size, 4, none⟩ = some (.slice a b.rs.length cap) ∧ w.heap.size < x.heap.size := by
  have hc : ∀ j, x.cell? ⟨w.heap.size, j, none⟩ = (bcells b a cap)[j]? := fun j => cell_of_row _ w.heap.size j _ 88 (0, 0) h.box
  exact ⟨by rw [hc]; rfl, by rw [hc]; rfl, by rw [hc]; rfl, by rw [hc]; rfl, by rw [hc]; rfl, (Array.getElem?_eq_some_iff.1 h.box).1⟩
end Go.Proofs.YtaooidckmepdeaaGreatDoor
namespace Go.Proofs.YtaooidckmepdeaaGreatDoor
set_option linter.unusedSimpArgs false
set_option linter.unusedVariables false
open Go.RowKit
/-- And the head's array, the records' bytes. -/
structure EncS (w : World) (cs : Array Value) (H : Nat) (h : List Nat) (ra : Option Addr) (L : List Nat) (x : World) : Prop where
  bx : BxS w cs x
  arr : x.heap[H]? = some (.cells (cv h).toArray 171 (0, 0))
  row : Row x ra L
  tab : Tab x
  lt : w.heap.size < H
  rlt : ∀ i, i < L.length → ∃ ad, ra = some ad ∧ ad.block < H
theorem EncS.below {w x y : World} {cs : Array Value} {H : Nat} {h L : List Nat} {ra : Option Addr} (s : EncS w cs H h ra L x) (hb : Below x.heap.size x y) : EncS w cs H h ra L y :=
  ⟨s.bx.below hb, (hb.block _ (Array.getElem?_eq_some_iff.1 s.arr).1).trans s.arr, s.row.below hb, s.tab.below hb, s.lt, s.rlt⟩
theorem EncS.store {w x : World} {cs : Array Value} {H : Nat} {h L : List Nat} {ra : Option Addr} (s : EncS w cs H h ra L x) (h' : List Nat) : EncS w cs H h' ra L (x.setRow H (cv h').toArray) := by
  have ho : ∀ k, k ≠ H → (x.setRow H (cv h').toArray).heap[k]? = x.heap[k]? := fun k hk => setRow_other x H k _ hk
  have hlt := s.lt
  have hcell : ∀ b o, b < H → (x.setRow H (cv h').toArray).cell? ⟨b, o, none⟩ = x.cell? ⟨b, o, none⟩ := fun b o hb => (below_setRow (Below.refl H x) (Nat.le_refl H) _).cell hb
  refine ⟨⟨by rw [ho _ (by omega)]; exact s.bx.box, below_setRow s.bx.bel (by omega) _⟩, setRow_heap _ _ _ _ _ _ s.arr, ?_, ?_, hlt, s.rlt⟩
  · intro i hi
    obtain ⟨b, off, e, hc, hl⟩ := s.row i hi
    obtain ⟨ad, e2, hb⟩ := s.rlt i hi
    rw [e] at e2
    injection e2 with e2
    subst e2
    exact ⟨b, off, e, by rw [hcell _ _ hb]; exact hc, hl⟩
  · intro i hi
    rw [hcell 0 i (by omega)]
    exact s.tab i hi
theorem EncS.arow {w x : World} {cs : Array Value} {H : Nat} {h L : List Nat} {ra : Option Addr} (s : EncS w cs H h ra L x) (hb : ∀ i, h.getD i 0 < 256) : Row x (some ⟨H, 0, none⟩) h := by
  intro i hi
  refine ⟨H, 0, rfl, ?_, hb i⟩
  rw [cell_of_row _ H (0 + i) (cv h).toArray 171 (0, 0) s.arr]
  simpa using cv_get h i hi
theorem row_from {w : World} {H : Nat} {h : List Nat} (k : Nat) (hr : Row w (some ⟨H, 0, none⟩) h) : Row w (some ⟨H, k, none⟩) (h.drop k) := by
  intro i hi
  rw [List.length_drop] at hi
  obtain ⟨b, off, e, hc, hl⟩ := hr (k + i) (by omega)
  simp only [Option.some.injEq, Addr.mk.injEq, and_true] at e
  obtain ⟨rfl, rfl⟩ := e
  have eg : (h.drop k).getD i 0 = h.getD (k + i) 0 := by simp [List.getD]
  rw [eg]
  exact ⟨H, k, rfl, by rw [Nat.zero_add] at hc; exact hc, hl⟩
theorem EncS.new {w x : World} {cs : Array Value} {h L : List Nat} {ra : Option Addr} (hb : BxS w cs x) (hr : Row x ra L) (ht : Tab x) : EncS w cs x.heap.size h ra L (x.alloc (.cells (cv h).toArray 171)) := by
  refine ⟨hb.below (below_box _), heap_alloc_new x _, hr.below (below_box _), ht.below (below_box _), (Array.getElem?_eq_some_iff.1 hb.box).1, ?_⟩
  intro i hi
  obtain ⟨b, off, rfl, hc, _⟩ := hr i hi
  exact ⟨⟨b, off, none⟩, rfl, by have := World.block_lt_of_cell? _ _ hc; exact this⟩
set_option maxHeartbeats 4000000 in
set_option maxRecDepth 100000 in
theorem bencode_ok (b : Ba) (a : Option Addr) (cap : Nat) (w : World) (hr : RRow w a b.rs) (hi : In64B b) (ht : Tab w) (h : chkB b = 0) :
    Calls Tryz.prog 92 #[bav b a cap] w fun e w' => ∃ g, e = .returned (.tuple #[.slice (some ⟨g, 0, none⟩) (encBL b).length (encBL b).length, .int .i64 0]) ∧ Own w.heap.size w' g (encBL b).length (encBL b) ∧ Below w.heap.size w w' := by
  obtain ⟨hw, h6⟩ := chk_parts h
  obtain ⟨⟨b0, b1⟩, ⟨s0, s1⟩, q0, q1, r0, hri, hc⟩ := wr_ok hw
  obtain ⟨f0, f1⟩ := (time_iff _).1 (wr_time hw)
  have hft := wr_time hw
  have hlen := (wr_len hw).1
  obtain ⟨i0, i1⟩ := hi
  obtain ⟨bn, ebn⟩ := Int.eq_ofNat_of_zero_le b0
  obtain ⟨sn, esn⟩ := Int.eq_ofNat_of_zero_le (show 0 ≤ b.span by omega)
  obtain ⟨pn, epn⟩ := Int.eq_ofNat_of_zero_le q0
  obtain ⟨qn, eqn⟩ := Int.eq_ofNat_of_zero_le q1
  obtain ⟨fn, efn⟩ := Int.eq_ofNat_of_zero_le f0
  have HW : Hid (∀ w, RRow w a b.rs → Calls Tryz.prog 99 #[bav b a cap] w fun e w' => e = .returned (.int .i64 0) ∧ Below w.heap.size w w') := by
    intro w hr
    have := wrong_any b a cap w hr (by unfold maxLen; omega)
    rw [hw] at this
    exact this
  have HBO : Hid (∀ w, RRow w a b.rs → Calls Tryz.prog 101 #[.slice a b.rs.length cap, .int .i64 (frs b)] w fun e w' => ∃ v, e = .returned v ∧ w'.ownsRow w.heap.size 5 1 v (bodyL b.rs (frs b)).length (cv (bodyL b.rs (frs b))) ∧ Below w.heap.size w w') := fun w hr => body_any a cap b.rs (frs b) w hr hlen hc hft
  have HR4 : Hid (∀ w, RRow w a b.rs → ∃ x off, a = some ⟨x, off, none⟩ ∧ w.cell? ⟨x, off + 4, none⟩ = some (.int .i64 (frs b))) := by
    intro w hr
    obtain ⟨x, off, e, _, _, _, _, z4, _⟩ := hr 0 r0
    rw [Nat.zero_mul, Nat.add_zero] at z4
    exact ⟨x, off, e, z4⟩
  have HLB : Hid (∀ i, (bodyL b.rs (frs b)).getD i 0 < 256) := lt_mem (body_mem hft hc)
  have hencE := hd_enc b
  have htl := tail_len b
  have htm : ∀ x, x ∈ tailL b → x < 256 := fun x hx => encB_mem hw x (by unfold encBL; exact List.mem_append_right _ hx)
  have hsl := sum_lt (tailL b) htm
  have htd : tailL b = midL b.prod.toNat b.seq.toNat b.span.toNat b.rs.length (frs b).toNat ++ bodyL b.rs (frs b) := rfl
  obtain ⟨ln, eln⟩ : ∃ ln, Hid ((tailL b).length + 4 = ln) := ⟨_, rfl⟩
  obtain ⟨un, eun⟩ : ∃ un, Hid (P.sum (tailL b) = un) := ⟨_, rfl⟩
  rw [eln.out, eun.out] at hencE
  have hln : ln = 36 + (bodyL b.rs (frs b)).length := by rw [← eln.out]; omega
  have hmm : P.more (P.sum (midL b.prod.toNat b.seq.toNat b.span.toNat b.rs.length (frs b).toNat)) (bodyL b.rs (frs b)) = un := by
    rw [← eun.out, htd]
    exact P.more_append 0 _ _
  have hsm : P.sum (midL b.prod.toNat b.seq.toNat b.span.toNat b.rs.length (frs b).toNat) < 4294967296 := sum_lt _ (fun x hx => htm x (by rw [htd]; exact List.mem_append_left _ hx))
  rw [eun.out] at hsl
  have e1 : b.base.toNat = bn := by omega
  have e2 : b.span.toNat = sn := by omega
  have e3 : b.prod.toNat = pn := by omega
  have e4 : b.seq.toNat = qn := by omega
  have e5 : (frs b).toNat = fn := by omega
  rw [e1, e2, e3, e4, e5] at hencE
  rw [e2, e3, e4, e5] at hmm hsm
  have hL6 : (bodyL b.rs (frs b)).length ≤ 5952 := by omega
  rw [← hencE]
  generalize bodyL b.rs (frs b) = L at *
  rw [efn] at HBO HR4
  have f1 : (fn : Int) ≤ 1125899906842624 := by rw [← efn]; exact f1
  clear hencE efn htl htm htd eln eun hw h6 hri hc hft e1 e2 e3 e4 e5 h
  obtain ⟨base, span, prod, seq, rs⟩ := b
  simp only at *
  subst ebn esn epn eqn
  simp only [bav] at HW ⊢
  have HZ0 : Hid ((cv (hd 0 0 0 0 0 0 0 0)).toArray.size = 48) := arr_size (by rw [cv_length, hd_len])
  have HS0 : Hid ((Tryz.prog.info? 171).map (·.size) = some (cv (hd 0 0 0 0 0 0 0 0)).toArray.size) := by show _ = _; rw [HZ0.out]; exact Tryz.info171
  have HZ1 : Hid ((cv (hd bn 0 0 0 0 0 0 0)).toArray.size = 48) := arr_size (by rw [cv_length, hd_len])
  have HS1 : Hid ((Tryz.prog.info? 171).map (·.size) = some (cv (hd bn 0 0 0 0 0 0 0)).toArray.size) := by show _ = _; rw [HZ1.out]; exact Tryz.info171
  have HZ2 : Hid ((cv (hd bn ln 0 0 0 0 0 0)).toArray.size = 48) := arr_size (by rw [cv_length, hd_len])
  have HS2 : Hid ((Tryz.prog.info? 171).map (·.size) = some (cv (hd bn ln 0 0 0 0 0 0)).toArray.size) := by show _ = _; rw [HZ2.out]; exact Tryz.info171
  have HZ3 : Hid ((cv (hd bn ln 0 pn 0 0 0 0)).toArray.size = 48) := arr_size (by rw [cv_length, hd_len])
  have HS3 : Hid ((Tryz.prog.info? 171).map (·.size) = some (cv (hd bn ln 0 pn 0 0 0 0)).toArray.size) := by show _ = _; rw [HZ3.out]; exact Tryz.info171
  have HZ4 : Hid ((cv (hd bn ln 0 pn qn 0 0 0)).toArray.size = 48) := arr_size (by rw [cv_length, hd_len])
  have HS4 : Hid ((Tryz.prog.info? 171).map (·.size) = some (cv (hd bn ln 0 pn qn 0 0 0)).toArray.size) := by show _ = _; rw [HZ4.out]; exact Tryz.info171
  have HZ5 : Hid ((cv (hd bn ln 0 pn qn sn 0 0)).toArray.size = 48) := arr_size (by rw [cv_length, hd_len])
  have HS5 : Hid ((Tryz.prog.info? 171).map (·.size) = some (cv (hd bn ln 0 pn qn sn 0 0)).toArray.size) := by show _ = _; rw [HZ5.out]; exact Tryz.info171
  have HZ6 : Hid ((cv (hd bn ln 0 pn qn sn rs.length 0)).toArray.size = 48) := arr_size (by rw [cv_length, hd_len])
  have HS6 : Hid ((Tryz.prog.info? 171).map (·.size) = some (cv (hd bn ln 0 pn qn sn rs.length 0)).toArray.size) := by show _ = _; rw [HZ6.out]; exact Tryz.info171
  have HZ7 : Hid ((cv (hd bn ln 0 pn qn sn rs.length fn)).toArray.size = 48) := arr_size (by rw [cv_length, hd_len])
  have HS7 : Hid ((Tryz.prog.info? 171).map (·.size) = some (cv (hd bn ln 0 pn qn sn rs.length fn)).toArray.size) := by show _ = _; rw [HZ7.out]; exact Tryz.info171
  have HZ8 : Hid ((cv (hd bn ln un pn qn sn rs.length fn)).toArray.size = 48) := arr_size (by rw [cv_length, hd_len])
  have HS8 : Hid ((Tryz.prog.info? 171).map (·.size) = some (cv (hd bn ln un pn qn sn rs.length fn)).toArray.size) := by show _ = _; rw [HZ8.out]; exact Tryz.info171
  have HX0 : Hid (∀ w, Calls Tryz.prog 102 #[.agg (cv (hd 0 0 0 0 0 0 0 0)).toArray, .int .i64 0, .int .i64 8, .int .i64 (bn : Nat)] w fun e w' => e = .returned (.agg (cv (hd bn 0 0 0 0 0 0 0)).toArray) ∧ Below w.heap.size w w') := sets_of (i := 0) (k := 8) (V := bn) (hd_base 0 0 0 0 0 0 0 0 bn) (by decide) (by decide) (by decide) (by omega)
  have HX1 : Hid (∀ w, Calls Tryz.prog 102 #[.agg (cv (hd bn 0 0 0 0 0 0 0)).toArray, .int .i64 8, .int .i64 4, .int .i64 (ln : Nat)] w fun e w' => e = .returned (.agg (cv (hd bn ln 0 0 0 0 0 0)).toArray) ∧ Below w.heap.size w w') := sets_of (i := 8) (k := 4) (V := ln) (hd_length bn 0 0 0 0 0 0 0 ln) (by decide) (by decide) (by decide) (by omega)
  have HX2 : Hid (∀ w, Calls Tryz.prog 102 #[.agg (cv (hd bn ln 0 0 0 0 0 0)).toArray, .int .i64 16, .int .i64 8, .int .i64 (pn : Nat)] w fun e w' => e = .returned (.agg (cv (hd bn ln 0 pn 0 0 0 0)).toArray) ∧ Below w.heap.size w w') := sets_of (i := 16) (k := 8) (V := pn) (hd_prod bn ln 0 0 0 0 0 0 pn) (by decide) (by decide) (by decide) (by omega)
  have HX3 : Hid (∀ w, Calls Tryz.prog 102 #[.agg (cv (hd bn ln 0 pn 0 0 0 0)).toArray, .int .i64 24, .int .i64 8, .int .i64 (qn : Nat)] w fun e w' => e = .returned (.agg (cv (hd bn ln 0 pn qn 0 0 0)).toArray) ∧ Below w.heap.size w w') := sets_of (i := 24) (k := 8) (V := qn) (hd_seq bn ln 0 pn 0 0 0 0 qn) (by decide) (by decide) (by decide) (by omega)
  have HX4 : Hid (∀ w, Calls Tryz.prog 102 #[.agg (cv (hd bn ln 0 pn qn 0 0 0)).toArray, .int .i64 32, .int .i64 4, .int .i64 (sn : Nat)] w fun e w' => e = .returned (.agg (cv (hd bn ln 0 pn qn sn 0 0)).toArray) ∧ Below w.heap.size w w') := sets_of (i := 32) (k := 4) (V := sn) (hd_span bn ln 0 pn qn 0 0 0 sn) (by decide) (by decide) (by decide) (by omega)
  have HX5 : Hid (∀ w, Calls Tryz.prog 102 #[.agg (cv (hd bn ln 0 pn qn sn 0 0)).toArray, .int .i64 36, .int .i64 4, .int .i64 (rs.length : Nat)] w fun e w' => e = .returned (.agg (cv (hd bn ln 0 pn qn sn rs.length 0)).toArray) ∧ Below w.heap.size w w') := sets_of (i := 36) (k := 4) (V := rs.length) (hd_cnt bn ln 0 pn qn sn 0 0 rs.length) (by decide) (by decide) (by decide) (by omega)
  have HX6 : Hid (∀ w, Calls Tryz.prog 102 #[.agg (cv (hd bn ln 0 pn qn sn rs.length 0)).toArray, .int .i64 40, .int .i64 8, .int .i64 (fn : Nat)] w fun e w' => e = .returned (.agg (cv (hd bn ln 0 pn qn sn rs.length fn)).toArray) ∧ Below w.heap.size w w') := sets_of (i := 40) (k := 8) (V := fn) (hd_first bn ln 0 pn qn sn rs.length 0 fn) (by decide) (by decide) (by decide) (by omega)
  have HX7 : Hid (∀ w, Calls Tryz.prog 102 #[.agg (cv (hd bn ln 0 pn qn sn rs.length fn)).toArray, .int .i64 12, .int .i64 4, .int .i64 (un : Nat)] w fun e w' => e = .returned (.agg (cv (hd bn ln un pn qn sn rs.length fn)).toArray) ∧ Below w.heap.size w w') := sets_of (i := 12) (k := 4) (V := un) (hd_sum bn ln 0 pn qn sn rs.length fn un) (by decide) (by decide) (by decide) (by omega)
  have HSU : Hid (∀ w H, Tab w → Row w (some ⟨H, 0, none⟩) (hd bn ln 0 pn qn sn rs.length fn) → Calls Tryz.prog 97 #[.slice (some ⟨H, 16, none⟩) 32 32] w fun e w' => e = .returned (.int .u32 ((P.sum (midL pn qn sn rs.length fn) : Nat) : Int)) ∧ w' = w) := by
    intro w H ht hr
    have h2 := row_from 16 hr
    rw [hd_drop] at h2
    have := sum_any (some ⟨H, 16, none⟩) 32 _ w ht h2 (by rw [mid_len]; unfold maxLen; omega)
    rw [mid_len] at this
    exact this
  generalize P.sum (midL pn qn sn rs.length fn) = s7 at *
  have HMO : Hid (∀ w a k, Tab w → Row w a L → Calls Tryz.prog 103 #[.int .u32 (s7 : Nat), .slice a L.length k] w fun e w' => e = .returned (.int .u32 ((un : Nat) : Int)) ∧ w' = w) := by
    intro w a k ht hr
    have := more_any s7 a k L w ht hsm hr (by unfold maxLen; omega)
    rw [hmm] at this
    exact this
  have HHB : Hid (∀ i, (hd bn ln 0 pn qn sn rs.length fn).getD i 0 < 256) := lt_mem (hd_mem _ _ _ _ _ _ _ _)
  have HJ : Hid (∀ w a k, Row w a L → Calls Tryz.prog 104 #[.agg (cv (hd bn ln un pn qn sn rs.length fn)).toArray, .slice a L.length k] w fun e w' => ∃ g, e = .returned (.slice (some ⟨g, 0, none⟩) ((hd bn ln un pn qn sn rs.length fn) ++ L).length ((hd bn ln un pn qn sn rs.length fn) ++ L).length) ∧ Own w.heap.size w' g ((hd bn ln un pn qn sn rs.length fn) ++ L).length ((hd bn ln un pn qn sn rs.length fn) ++ L) ∧ Below w.heap.size w w') := fun w a k hr => bjoin_any _ a k L w (hd_len _ _ _ _ _ _ _ _) (lt_mem (hd_mem _ _ _ _ _ _ _ _)) hr (by omega)
  have h00 := hd_zero
  generalize (hd bn ln un pn qn sn rs.length fn) = h8 at *
  generalize (hd bn ln 0 pn qn sn rs.length fn) = h7 at *
  generalize (hd bn ln 0 pn qn sn rs.length 0) = h6 at *
  generalize (hd bn ln 0 pn qn sn 0 0) = h5 at *
  generalize (hd bn ln 0 pn qn 0 0 0) = h4 at *
  generalize (hd bn ln 0 pn 0 0 0 0) = h3 at *
  generalize (hd bn ln 0 0 0 0 0 0) = h2 at *
  generalize (hd bn 0 0 0 0 0 0 0) = h1 at *
  generalize (hd 0 0 0 0 0 0 0 0) = h0 at *
  subst h00
  generalize h8 ++ L = M at *
  have hw1 : IntKind.i64.wrap (48 + (L.length : Int)) = 48 + (L.length : Int) := by rw [IntKind.wrap_i64]; omega
  have hw2 : IntKind.i64.wrap (48 + (L.length : Int) - 12) = (ln : Int) := by rw [IntKind.wrap_i64]; omega
  have hw4 : IntKind.i64.wrap (un : Int) = (un : Int) := by rw [IntKind.wrap_i64]; omega
  have hLI : 48 + (L.length : Int) ≤ 6000 := by omega
  have hrI : (0 : Int) < (rs.length : Int) := by omega
  have HR0 : Hid (RRow w a rs) := hr
  have HT : Hid (Tab w) := ht
  obtain ⟨rb, roff, era, _⟩ := HR4.out w hr
  have hrb : rb < w.heap.size := by
    obtain ⟨x, off, e, z0, _⟩ := hr 0 r0
    rw [era] at e
    simp only [Option.some.injEq, Addr.mk.injEq, and_true] at e
    obtain ⟨rfl, rfl⟩ := e
    have := World.block_lt_of_cell? _ _ z0
    simpa using this
  subst era
  have HY4 : Hid (∀ x, Below w.heap.size w x → x.cell? ⟨rb, roff + 4, none⟩ = some (.int .i64 (fn : Int))) := by
    intro x hb
    obtain ⟨y, off, e, h⟩ := HR4.out x (RRow.below HR0.out hb)
    simp only [Option.some.injEq, Addr.mk.injEq, and_true] at e
    obtain ⟨rfl, rfl⟩ := e
    exact h
  clear hr ht hsm hmm hln b0 q0 q1 f0 s0 HR4
  go_enter Tryz.func92, Tryz.ntmps92
  go_wp2_with (first
    | (go_at_call 99; refine (HW.out _ (RRow.below HR0.out (below_box _))).mono ?_; rintro e w1 ⟨rfl, hb1⟩; have HB1 : Hid (BxS w (bcells ⟨(bn : Int), (sn : Int), (pn : Int), (qn : Int), rs⟩ (some ⟨rb, roff, none⟩) cap) w1) := BxS.below (BxS.new w _) hb1; have HRR : Hid (RRow w1 (some ⟨rb, roff, none⟩) rs) := RRow.below (RRow.below HR0.out (below_box _)) hb1; have HT1 : Hid (Tab w1) := Tab.below (Tab.below HT.out (below_box _)) hb1; obtain ⟨c0, c1, c2, c3, c4, cz⟩ := BxS.cells HB1.out; simp only at c0 c1 c2 c3 c4; have y0 := HY4.out _ HB1.out.bel; clear hb1)
    | (go_at_call 101; refine (HBO.out _ HRR.out).mono ?_; rintro e w2 ⟨v2, rfl, hown2, hb2⟩; obtain ⟨a2, k2, rfl, hr2, hn2⟩ := owns_sl hown2 HLB.out; have HB2 : Hid (BxS w (bcells ⟨(bn : Int), (sn : Int), (pn : Int), (qn : Int), rs⟩ (some ⟨rb, roff, none⟩) cap) w2) := BxS.below HB1.out hb2; have HE0z : Hid (EncS w (bcells ⟨(bn : Int), (sn : Int), (pn : Int), (qn : Int), rs⟩ (some ⟨rb, roff, none⟩) cap) w2.heap.size (List.replicate 48 0) a2 L (w2.alloc (.cells (cv (List.replicate 48 0)).toArray 171))) := EncS.new HB2.out hr2 (Tab.below HT1.out hb2); clear c0 c1 c2 c3 c4 cz HRR HT1 hown2 hb2 y0)
    | (have _t := HE0z; generalize hx0 : World.alloc w2 (Obj.cells #[.int .u8 0, .int .u8 0, .int .u8 0, .int .u8 0, .int .u8 0, .int .u8 0, .int .u8 0, .int .u8 0, .int .u8 0, .int .u8 0, .int .u8 0, .int .u8 0, .int .u8 0, .int .u8 0, .int .u8 0, .int .u8 0, .int .u8 0, .int .u8 0, .int .u8 0, .int .u8 0, .int .u8 0, .int .u8 0, .int .u8 0, .int .u8 0, .int .u8 0, .int .u8 0, .int .u8 0, .int .u8 0, .int .u8 0, .int .u8 0, .int .u8 0, .int .u8 0, .int .u8 0, .int .u8 0, .int .u8 0, .int .u8 0, .int .u8 0, .int .u8 0, .int .u8 0, .int .u8 0, .int .u8 0, .int .u8 0, .int .u8 0, .int .u8 0, .int .u8 0, .int .u8 0, .int .u8 0, .int .u8 0] 171) = x0; have HE0 : Hid (EncS w (bcells ⟨(bn : Int), (sn : Int), (pn : Int), (qn : Int), rs⟩ (some ⟨rb, roff, none⟩) cap) w2.heap.size (List.replicate 48 0) a2 L x0) := (by rw [← hx0]; exact HE0z.out); clear HE0z hx0 _t; obtain ⟨c0, c1, c2, c3, c4, cz⟩ := BxS.cells HE0.out.bx; simp only at c0 c1 c2 c3 c4; refine wpList_load_row rfl 171 _ rfl w2.heap.size rfl 171 (cv (List.replicate 48 0)).toArray (0, 0) _ HE0.out.arr Tryz.underlying171 rfl HS0.out ?_)
    | (go_at_call 102; have _t := HE0; refine (HX0.out _).mono ?_; rintro e y1 ⟨rfl, hb⟩; have HF0 : Hid (EncS w (bcells ⟨(bn : Int), (sn : Int), (pn : Int), (qn : Int), rs⟩ (some ⟨rb, roff, none⟩) cap) w2.heap.size (List.replicate 48 0) a2 L y1) := EncS.below HE0.out hb; clear hb HE0 _t c0 c1 c2 c3 c4 cz)
    | (have _t := HF0; refine wpList_store_row rfl 171 _ _ rfl w2.heap.size (cv h1).toArray rfl rfl 171 (cv (List.replicate 48 0)).toArray HF0.out.arr HS1.out (by rw [HZ0.out, HZ1.out]) (arr_one h1) ?_; have HE : Hid (EncS w (bcells ⟨(bn : Int), (sn : Int), (pn : Int), (qn : Int), rs⟩ (some ⟨rb, roff, none⟩) cap) w2.heap.size h1 a2 L (World.setRow y1 w2.heap.size (cv h1).toArray)) := EncS.store HF0.out h1; clear HF0 _t; generalize World.setRow y1 w2.heap.size (cv h1).toArray = x1 at HE ⊢; have HE1 : Hid (EncS w (bcells ⟨(bn : Int), (sn : Int), (pn : Int), (qn : Int), rs⟩ (some ⟨rb, roff, none⟩) cap) w2.heap.size h1 a2 L x1) := HE; clear HE; obtain ⟨c0, c1, c2, c3, c4, cz⟩ := BxS.cells HE1.out.bx; simp only at c0 c1 c2 c3 c4)
    | (have _t := HE1; refine wpList_load_row rfl 171 _ rfl w2.heap.size rfl 171 (cv h1).toArray (0, 0) _ HE1.out.arr Tryz.underlying171 rfl HS1.out ?_)
    | (go_at_call 102; have _t := HE1; refine (HX1.out _).mono ?_; rintro e y2 ⟨rfl, hb⟩; have HF1 : Hid (EncS w (bcells ⟨(bn : Int), (sn : Int), (pn : Int), (qn : Int), rs⟩ (some ⟨rb, roff, none⟩) cap) w2.heap.size h1 a2 L y2) := EncS.below HE1.out hb; clear hb HE1 _t c0 c1 c2 c3 c4 cz)
    | (have _t := HF1; refine wpList_store_row rfl 171 _ _ rfl w2.heap.size (cv h2).toArray rfl rfl 171 (cv h1).toArray HF1.out.arr HS2.out (by rw [HZ1.out, HZ2.out]) (arr_one h2) ?_; have HE : Hid (EncS w (bcells ⟨(bn : Int), (sn : Int), (pn : Int), (qn : Int), rs⟩ (some ⟨rb, roff, none⟩) cap) w2.heap.size h2 a2 L (World.setRow y2 w2.heap.size (cv h2).toArray)) := EncS.store HF1.out h2; clear HF1 _t; generalize World.setRow y2 w2.heap.size (cv h2).toArray = x2 at HE ⊢; have HE2 : Hid (EncS w (bcells ⟨(bn : Int), (sn : Int), (pn : Int), (qn : Int), rs⟩ (some ⟨rb, roff, none⟩) cap) w2.heap.size h2 a2 L x2) := HE; clear HE; obtain ⟨c0, c1, c2, c3, c4, cz⟩ := BxS.cells HE2.out.bx; simp only at c0 c1 c2 c3 c4)
    | (have _t := HE2; refine wpList_load_row rfl 171 _ rfl w2.heap.size rfl 171 (cv h2).toArray (0, 0) _ HE2.out.arr Tryz.underlying171 rfl HS2.out ?_)
    | (go_at_call 102; have _t := HE2; refine (HX2.out _).mono ?_; rintro e y3 ⟨rfl, hb⟩; have HF2 : Hid (EncS w (bcells ⟨(bn : Int), (sn : Int), (pn : Int), (qn : Int), rs⟩ (some ⟨rb, roff, none⟩) cap) w2.heap.size h2 a2 L y3) := EncS.below HE2.out hb; clear hb HE2 _t c0 c1 c2 c3 c4 cz)
    | (have _t := HF2; refine wpList_store_row rfl 171 _ _ rfl w2.heap.size (cv h3).toArray rfl rfl 171 (cv h2).toArray HF2.out.arr HS3.out (by rw [HZ2.out, HZ3.out]) (arr_one h3) ?_; have HE : Hid (EncS w (bcells ⟨(bn : Int), (sn : Int), (pn : Int), (qn : Int), rs⟩ (some ⟨rb, roff, none⟩) cap) w2.heap.size h3 a2 L (World.setRow y3 w2.heap.size (cv h3).toArray)) := EncS.store HF2.out h3; clear HF2 _t; generalize World.setRow y3 w2.heap.size (cv h3).toArray = x3 at HE ⊢; have HE3 : Hid (EncS w (bcells ⟨(bn : Int), (sn : Int), (pn : Int), (qn : Int), rs⟩ (some ⟨rb, roff, none⟩) cap) w2.heap.size h3 a2 L x3) := HE; clear HE; obtain ⟨c0, c1, c2, c3, c4, cz⟩ := BxS.cells HE3.out.bx; simp only at c0 c1 c2 c3 c4)
    | (have _t := HE3; refine wpList_load_row rfl 171 _ rfl w2.heap.size rfl 171 (cv h3).toArray (0, 0) _ HE3.out.arr Tryz.underlying171 rfl HS3.out ?_)
    | (go_at_call 102; have _t := HE3; refine (HX3.out _).mono ?_; rintro e y4 ⟨rfl, hb⟩; have HF3 : Hid (EncS w (bcells ⟨(bn : Int), (sn : Int), (pn : Int), (qn : Int), rs⟩ (some ⟨rb, roff, none⟩) cap) w2.heap.size h3 a2 L y4) := EncS.below HE3.out hb; clear hb HE3 _t c0 c1 c2 c3 c4 cz)
    | (have _t := HF3; refine wpList_store_row rfl 171 _ _ rfl w2.heap.size (cv h4).toArray rfl rfl 171 (cv h3).toArray HF3.out.arr HS4.out (by rw [HZ3.out, HZ4.out]) (arr_one h4) ?_; have HE : Hid (EncS w (bcells ⟨(bn : Int), (sn : Int), (pn : Int), (qn : Int), rs⟩ (some ⟨rb, roff, none⟩) cap) w2.heap.size h4 a2 L (World.setRow y4 w2.heap.size (cv h4).toArray)) := EncS.store HF3.out h4; clear HF3 _t; generalize World.setRow y4 w2.heap.size (cv h4).toArray = x4 at HE ⊢; have HE4 : Hid (EncS w (bcells ⟨(bn : Int), (sn : Int), (pn : Int), (qn : Int), rs⟩ (some ⟨rb, roff, none⟩) cap) w2.heap.size h4 a2 L x4) := HE; clear HE; obtain ⟨c0, c1, c2, c3, c4, cz⟩ := BxS.cells HE4.out.bx; simp only at c0 c1 c2 c3 c4)
    | (have _t := HE4; refine wpList_load_row rfl 171 _ rfl w2.heap.size rfl 171 (cv h4).toArray (0, 0) _ HE4.out.arr Tryz.underlying171 rfl HS4.out ?_)
    | (go_at_call 102; have _t := HE4; refine (HX4.out _).mono ?_; rintro e y5 ⟨rfl, hb⟩; have HF4 : Hid (EncS w (bcells ⟨(bn : Int), (sn : Int), (pn : Int), (qn : Int), rs⟩ (some ⟨rb, roff, none⟩) cap) w2.heap.size h4 a2 L y5) := EncS.below HE4.out hb; clear hb HE4 _t c0 c1 c2 c3 c4 cz)
    | (have _t := HF4; refine wpList_store_row rfl 171 _ _ rfl w2.heap.size (cv h5).toArray rfl rfl 171 (cv h4).toArray HF4.out.arr HS5.out (by rw [HZ4.out, HZ5.out]) (arr_one h5) ?_; have HE : Hid (EncS w (bcells ⟨(bn : Int), (sn : Int), (pn : Int), (qn : Int), rs⟩ (some ⟨rb, roff, none⟩) cap) w2.heap.size h5 a2 L (World.setRow y5 w2.heap.size (cv h5).toArray)) := EncS.store HF4.out h5; clear HF4 _t; generalize World.setRow y5 w2.heap.size (cv h5).toArray = x5 at HE ⊢; have HE5 : Hid (EncS w (bcells ⟨(bn : Int), (sn : Int), (pn : Int), (qn : Int), rs⟩ (some ⟨rb, roff, none⟩) cap) w2.heap.size h5 a2 L x5) := HE; clear HE; obtain ⟨c0, c1, c2, c3, c4, cz⟩ := BxS.cells HE5.out.bx; simp only at c0 c1 c2 c3 c4)
    | (have _t := HE5; refine wpList_load_row rfl 171 _ rfl w2.heap.size rfl 171 (cv h5).toArray (0, 0) _ HE5.out.arr Tryz.underlying171 rfl HS5.out ?_)
    | (go_at_call 102; have _t := HE5; refine (HX5.out _).mono ?_; rintro e y6 ⟨rfl, hb⟩; have HF5 : Hid (EncS w (bcells ⟨(bn : Int), (sn : Int), (pn : Int), (qn : Int), rs⟩ (some ⟨rb, roff, none⟩) cap) w2.heap.size h5 a2 L y6) := EncS.below HE5.out hb; clear hb HE5 _t c0 c1 c2 c3 c4 cz)
    | (have _t := HF5; refine wpList_store_row rfl 171 _ _ rfl w2.heap.size (cv h6).toArray rfl rfl 171 (cv h5).toArray HF5.out.arr HS6.out (by rw [HZ5.out, HZ6.out]) (arr_one h6) ?_; have HE : Hid (EncS w (bcells ⟨(bn : Int), (sn : Int), (pn : Int), (qn : Int), rs⟩ (some ⟨rb, roff, none⟩) cap) w2.heap.size h6 a2 L (World.setRow y6 w2.heap.size (cv h6).toArray)) := EncS.store HF5.out h6; clear HF5 _t; generalize World.setRow y6 w2.heap.size (cv h6).toArray = x6 at HE ⊢; have HE6 : Hid (EncS w (bcells ⟨(bn : Int), (sn : Int), (pn : Int), (qn : Int), rs⟩ (some ⟨rb, roff, none⟩) cap) w2.heap.size h6 a2 L x6) := HE; clear HE; obtain ⟨c0, c1, c2, c3, c4, cz⟩ := BxS.cells HE6.out.bx; simp only at c0 c1 c2 c3 c4)
    | (have _t := HE6; refine wpList_load_row rfl 171 _ rfl w2.heap.size rfl 171 (cv h6).toArray (0, 0) _ HE6.out.arr Tryz.underlying171 rfl HS6.out ?_)
    | (go_at_call 102; have _t := HE6; refine (HX6.out _).mono ?_; rintro e y7 ⟨rfl, hb⟩; have HF6 : Hid (EncS w (bcells ⟨(bn : Int), (sn : Int), (pn : Int), (qn : Int), rs⟩ (some ⟨rb, roff, none⟩) cap) w2.heap.size h6 a2 L y7) := EncS.below HE6.out hb; clear hb HE6 _t c0 c1 c2 c3 c4 cz)
    | (have _t := HF6; refine wpList_store_row rfl 171 _ _ rfl w2.heap.size (cv h7).toArray rfl rfl 171 (cv h6).toArray HF6.out.arr HS7.out (by rw [HZ6.out, HZ7.out]) (arr_one h7) ?_; have HE : Hid (EncS w (bcells ⟨(bn : Int), (sn : Int), (pn : Int), (qn : Int), rs⟩ (some ⟨rb, roff, none⟩) cap) w2.heap.size h7 a2 L (World.setRow y7 w2.heap.size (cv h7).toArray)) := EncS.store HF6.out h7; clear HF6 _t; generalize World.setRow y7 w2.heap.size (cv h7).toArray = x7 at HE ⊢; have HE7 : Hid (EncS w (bcells ⟨(bn : Int), (sn : Int), (pn : Int), (qn : Int), rs⟩ (some ⟨rb, roff, none⟩) cap) w2.heap.size h7 a2 L x7) := HE; clear HE; obtain ⟨c0, c1, c2, c3, c4, cz⟩ := BxS.cells HE7.out.bx; simp only at c0 c1 c2 c3 c4)
    | (go_at_call 97; refine (HSU.out _ _ HE7.out.tab (EncS.arow HE7.out HHB.out)).mono ?_; rintro e w8 ⟨rfl, hw⟩; subst w8)
    | (go_at_call 103; refine (HMO.out _ a2 k2 HE7.out.tab HE7.out.row).mono ?_; rintro e w9 ⟨rfl, hw⟩; subst w9)
    | (have _t := HE7; refine wpList_load_row rfl 171 _ rfl w2.heap.size rfl 171 (cv h7).toArray (0, 0) _ HE7.out.arr Tryz.underlying171 rfl HS7.out ?_)
    | (go_at_call 102; have _t := HE7; refine (HX7.out _).mono ?_; rintro e y8 ⟨rfl, hb⟩; have HF7 : Hid (EncS w (bcells ⟨(bn : Int), (sn : Int), (pn : Int), (qn : Int), rs⟩ (some ⟨rb, roff, none⟩) cap) w2.heap.size h7 a2 L y8) := EncS.below HE7.out hb; clear hb HE7 _t c0 c1 c2 c3 c4 cz)
    | (have _t := HF7; refine wpList_store_row rfl 171 _ _ rfl w2.heap.size (cv h8).toArray rfl rfl 171 (cv h7).toArray HF7.out.arr HS8.out (by rw [HZ7.out, HZ8.out]) (arr_one h8) ?_; have HE : Hid (EncS w (bcells ⟨(bn : Int), (sn : Int), (pn : Int), (qn : Int), rs⟩ (some ⟨rb, roff, none⟩) cap) w2.heap.size h8 a2 L (World.setRow y8 w2.heap.size (cv h8).toArray)) := EncS.store HF7.out h8; clear HF7 _t; generalize World.setRow y8 w2.heap.size (cv h8).toArray = x8 at HE ⊢; have HE8 : Hid (EncS w (bcells ⟨(bn : Int), (sn : Int), (pn : Int), (qn : Int), rs⟩ (some ⟨rb, roff, none⟩) cap) w2.heap.size h8 a2 L x8) := HE; clear HE; obtain ⟨c0, c1, c2, c3, c4, cz⟩ := BxS.cells HE8.out.bx; simp only at c0 c1 c2 c3 c4)
    | (have _t := HE8; refine wpList_load_row rfl 171 _ rfl w2.heap.size rfl 171 (cv h8).toArray (0, 0) _ HE8.out.arr Tryz.underlying171 rfl HS8.out ?_)
    | (go_at_call 104; refine (HJ.out _ a2 k2 HE8.out.row).mono ?_; rintro e w10 ⟨g, rfl, hown, hb⟩; have HBL : Hid (Below w.heap.size w w10) := HE8.out.bx.bel.trans (hb.mono HE8.out.bx.bel.size)))
  go_ret2
  exact ⟨g, rfl, own_le hown HE8.out.bx.bel.size, HBL.out⟩
set_option maxRecDepth 100000 in
theorem bencode_big (b : Ba) (a : Option Addr) (cap : Nat) (w : World) (hr : RRow w a b.rs) (hw : wrE b = 0) (h : chkB b ≠ 0) :
    Calls Tryz.prog 92 #[bav b a cap] w fun e w' => e = .returned (.tuple #[.slice none 0 0, .int .i64 2]) ∧ Below w.heap.size w w' := by
  obtain ⟨_, _, _, _, r0, hri, hc⟩ := wr_ok hw
  have hft := wr_time hw
  have hlen := (wr_len hw).1
  have hL : 6000 < 48 + (bodyL b.rs (frs b)).length := by
    unfold chkB at h
    rw [if_pos hw] at h
    split at h
    · assumption
    · exact absurd rfl h
  have hL2 := body_len (frs b) hc
  have HW : Hid (∀ w, RRow w a b.rs → Calls Tryz.prog 99 #[bav b a cap] w fun e w' => e = .returned (.int .i64 0) ∧ Below w.heap.size w w') := by
    intro w hr
    have := wrong_any b a cap w hr (by unfold maxLen; omega)
    rw [hw] at this
    exact this
  have HBO : Hid (∀ w, RRow w a b.rs → Calls Tryz.prog 101 #[.slice a b.rs.length cap, .int .i64 (frs b)] w fun e w' => ∃ v, e = .returned v ∧ w'.ownsRow w.heap.size 5 1 v (bodyL b.rs (frs b)).length (cv (bodyL b.rs (frs b))) ∧ Below w.heap.size w w') := fun w hr => body_any a cap b.rs (frs b) w hr hlen hc hft
  have HR4 : Hid (∀ w, RRow w a b.rs → ∃ x off, a = some ⟨x, off, none⟩ ∧ x < w.heap.size ∧ w.cell? ⟨x, off + 4, none⟩ = some (.int .i64 (frs b))) := by
    intro w hr
    obtain ⟨x, off, e, z0, _, _, _, z4, _⟩ := hr 0 r0
    rw [Nat.zero_mul, Nat.add_zero] at z4
    have := World.block_lt_of_cell? _ _ z0
    exact ⟨x, off, e, by simpa using this, z4⟩
  have HLB : Hid (∀ i, (bodyL b.rs (frs b)).getD i 0 < 256) := lt_mem (body_mem hft hc)
  generalize bodyL b.rs (frs b) = L at *
  generalize frs b = fr at *
  clear h hw hc hri hft
  obtain ⟨base, span, prod, seq, rs⟩ := b
  simp only [bav] at *
  obtain ⟨rb, roff, rfl, hrb, _⟩ := HR4.out w hr
  have HR0 : Hid (RRow w (some ⟨rb, roff, none⟩) rs) := hr
  have HY4 : Hid (∀ x, Below w.heap.size w x → x.cell? ⟨rb, roff + 4, none⟩ = some (.int .i64 fr)) := by
    intro x hb
    obtain ⟨y, off, e, _, h⟩ := HR4.out x (RRow.below HR0.out hb)
    simp only [Option.some.injEq, Addr.mk.injEq, and_true] at e
    obtain ⟨rfl, rfl⟩ := e
    exact h
  clear hr HR4
  have hw1 : IntKind.i64.wrap (48 + (L.length : Int)) = 48 + (L.length : Int) := by rw [IntKind.wrap_i64]; omega
  have hLI : 6000 < 48 + (L.length : Int) := by omega
  have hrI : (0 : Int) < (rs.length : Int) := by omega
  go_enter Tryz.func92, Tryz.ntmps92
  go_wp2_with (first
    | (go_at_call 99; refine (HW.out _ (RRow.below HR0.out (below_box _))).mono ?_; rintro e w1 ⟨rfl, hb1⟩; have HB1 : Hid (BxS w (bcells ⟨base, span, prod, seq, rs⟩ (some ⟨rb, roff, none⟩) cap) w1) := BxS.below (BxS.new w _) hb1; have HRR : Hid (RRow w1 (some ⟨rb, roff, none⟩) rs) := RRow.below (RRow.below HR0.out (below_box _)) hb1; obtain ⟨c0, c1, c2, c3, c4, cz⟩ := BxS.cells HB1.out; simp only at c0 c1 c2 c3 c4; have y0 := HY4.out _ HB1.out.bel; clear hb1)
    | (go_at_call 101; refine (HBO.out _ HRR.out).mono ?_; rintro e w2 ⟨v2, rfl, hown2, hb2⟩; obtain ⟨a2, k2, rfl, hr2, hn2⟩ := owns_sl hown2 HLB.out; have HB2 : Hid (Below w.heap.size w w2) := HB1.out.bel.trans (hb2.mono HB1.out.bel.size); clear hown2 hr2 hn2))
  go_ret2
  exact ⟨rfl, HB2.out⟩
set_option maxRecDepth 100000 in
theorem bencode_no (b : Ba) (a : Option Addr) (cap : Nat) (w : World) (hr : RRow w a b.rs) (hl : b.rs.length ≤ maxLen) (hw : wrE b ≠ 0) :
    Calls Tryz.prog 92 #[bav b a cap] w fun e w' => e = .returned (.tuple #[.slice none 0 0, .int .i64 (wrE b)]) ∧ Below w.heap.size w w' := by
  have HW : Hid (∀ w, RRow w a b.rs → Calls Tryz.prog 99 #[bav b a cap] w fun e w' => e = .returned (.int .i64 (wrE b)) ∧ Below w.heap.size w w') := fun w hr => wrong_any b a cap w hr hl
  have hne : (wrE b != 0) = true := by rw [bne_iff_ne]; exact hw
  generalize wrE b = c at *
  obtain ⟨base, span, prod, seq, rs⟩ := b
  simp only [bav] at *
  have HR0 : Hid (RRow w a rs) := hr
  clear hr hw
  go_enter Tryz.func92, Tryz.ntmps92
  go_wp2_with (go_at_call 99; refine (HW.out _ (RRow.below HR0.out (below_box _))).mono ?_; rintro e w1 ⟨rfl, hb1⟩; have HB1 : Hid (Below w.heap.size w w1) := (below_box _).trans (hb1.mono (by simp)))
  go_ret2
  exact ⟨rfl, HB1.out⟩
/-- What Encode leaves: the bytes, or nothing. -/
def BEnc (f : Nat) (b : Ba) (a : Option Addr) (cap : Nat) : Prop := ∀ w, Tab w → RRow w a b.rs → Calls Tryz.prog f #[bav b a cap] w fun e w' => ∃ v, e = .returned (.tuple #[v, .int .i64 (chkB b)]) ∧ w'.ownsRow w.heap.size 5 1 v (encBR b).length (cv (encBR b)) ∧ Below w.heap.size w w'
theorem bencode_any (b : Ba) (a : Option Addr) (cap : Nat) (hi : In64B b) (hl : b.rs.length ≤ maxLen) : BEnc 92 b a cap := fun w ht hr => by
  by_cases hw : wrE b = 0
  · by_cases h : chkB b = 0
    · have hR : encBR b = encBL b := by unfold encBR; rw [if_pos h]
      rw [h, hR]
      refine (bencode_ok b a cap w hr hi ht h).mono ?_
      rintro e w' ⟨g, rfl, ho, hb⟩
      exact ⟨_, rfl, ho, hb⟩
    · have hR : encBR b = [] := by unfold encBR; rw [if_neg h]
      have h2 : chkB b = 2 := by
        unfold chkB at h ⊢
        rw [if_pos hw] at h ⊢
        split
        · rfl
        · rename_i hn; rw [if_neg hn] at h; exact absurd rfl h
      rw [h2, hR]
      refine (bencode_big b a cap w hr hw h).mono ?_
      rintro e w' ⟨rfl, hb⟩
      exact ⟨_, rfl, World.ownsRow_nil _ _ _ _, hb⟩
  · have h2 : chkB b = wrE b := by unfold chkB; rw [if_neg hw]
    have hR : encBR b = [] := by unfold encBR; rw [h2, if_neg hw]
    rw [h2, hR]
    refine (bencode_no b a cap w hr hl hw).mono ?_
    rintro e w' ⟨rfl, hb⟩
    exact ⟨_, rfl, World.ownsRow_nil _ _ _ _, hb⟩
end Go.Proofs.YtaooidckmepdeaaGreatDoor
namespace Go.Proofs.YtaooidckmepdeaaGreatDoor
set_option linter.unusedSimpArgs false
set_option linter.unusedVariables false
open Go.RowKit
set_option maxRecDepth 100000 in
theorem markOf_any (r : Rc) (w : World) : Calls Tryz.prog 91 #[.agg r.cells] w fun e w' => e = .returned (.int .i64 ((headB r.hk r.hv : Nat) : Int)) ∧ Below w.heap.size w w' := by
  obtain ⟨hk, k, hv, v, t, o⟩ := r
  simp only [Rc.cells]
  have e1 : bits .or .i64 0 1 = 1 := by decide
  have e2 : bits .or .i64 0 2 = 2 := by decide
  have e3 : bits .or .i64 1 2 = 3 := by decide
  cases hk <;> cases hv
  all_goals
    go_enter Tryz.func91, Tryz.ntmps91
    go_wp2_with fail
    go_ret
    refine ⟨retI ?_, below_box _⟩
    first | rfl | (simp only [e1, e2, e3]; rfl)
/-- A box that nothing of the writer touches. -/
theorem KeepT.box {B x : Nat} {w w' : World} {cs : Array Value} {t : TypeId} (k : KeepT B w w') (h : w.heap[x]? = some (.cells cs t (0, 0))) (hx : x ≠ B) (ht : t ≠ 5) : w'.heap[x]? = some (.cells cs t (0, 0)) := k.blk x _ hx h (notB ht)
theorem rc_box {w : World} {x : Nat} {r : Rc} (h : w.heap[x]? = some (.cells r.cells 84 (0, 0))) :
    w.cell? ⟨x, 0, none⟩ = some (.bool r.hk) ∧ w.cell? ⟨x, 1, none⟩ = some (.string r.k) ∧ w.cell? ⟨x, 2, none⟩ = some (.bool r.hv) ∧ w.cell? ⟨x, 3, none⟩ = some (.string r.v) ∧ w.cell? ⟨x, 4, none⟩ = some (.int .i64 r.t) ∧ w.cell? ⟨x, 5, none⟩ = some (.int .i64 r.o) ∧ x < w.heap.size :=
  ⟨(box_at h 0).1, (box_at h 1).1, (box_at h 2).1, (box_at h 3).1, (box_at h 4).1, (box_at h 5).1, (Array.getElem?_eq_some_iff.1 h).1⟩
/-- What stands once the record was looked at. -/
def stR (st : Ls) (r : Rc) : Ls := if okR r = true then st else none
theorem stR_eq (st : Ls) (r : Rc) : oa (oa (oa (oa (stR st r) (some (lay 1 (headB r.hk r.hv)))) (eIf r.hk r.k)) (eIf r.hv r.v)) (some (eInt r.t)) = oa st (eRec r) := by
  unfold stR eRec
  split
  · simp only [oa_assoc]
  · simp only [oa_none, none_oa]
theorem eNat_head (hk hv : Bool) : eNat 1 ((headB hk hv : Nat) : Int) = some (lay 1 (headB hk hv)) := by
  have := (head_bits hk hv).2.2
  unfold eNat
  rw [if_pos ⟨by omega, by omega⟩, Int.toNat_natCast]
theorem str_nil (s : ByteArray) : s.toList.isEmpty = decide (s.size = 0) := by
  have h : s.toList = s.data.toList := ByteArray.toList_eq s
  rw [h]
  obtain ⟨⟨l⟩⟩ := s
  cases l <;> simp [ByteArray.size]
/-- The record, laid. -/
theorem wrec_st (st : Ls) (r : Rc) (h : okR r = true) : oa st (eRec r) = oa (oa (oa (oa st (some (lay 1 (headB r.hk r.hv)))) (eIf r.hk r.k)) (eIf r.hv r.v)) (some (eInt r.t)) := by
  rw [← stR_eq]; unfold stR; rw [if_pos h]
theorem wrec_no (st : Ls) (r : Rc) (h : okR r = false) : oa st (eRec r) = none := by
  unfold eRec; rw [h]; simp [oa_none]
set_option maxHeartbeats 400000 in
set_option maxRecDepth 100000 in
theorem wrec_tt (w0 w : World) (st s0 s1 s2 s3 s4 : Ls) (N1 N2 N3 N4 N : Nat) (M : Int) (k v : ByteArray) (t o : Int) (bad cc : Bool) (hbad : bad = st.isNone) (hcc : cc = s0.isNone) (hw : WrS w0 w st N)
    (hc : cc = (bad || !(okR ⟨true, k, true, v, t, o⟩))) (hst : ∀ L, s0 = some L → st = some L) (N5 : Nat)
    (HM : Hid (∀ x, Calls Tryz.prog 91 #[.agg #[.bool true, .string k, .bool true, .string v, .int .i64 t, .int .i64 o]] x fun e w' => e = .returned (.int .i64 M) ∧ Below x.heap.size x w'))
    (HN : Hid (∀ x, WrS w0 x s0 N → Calls Tryz.prog 30 #[.pointer (some ⟨w0.heap.size, 0, none⟩), .int .i64 1, .int .i64 M] x (WP w0 x s1 N1)))
    (HK : Hid (∀ x, WrS w0 x s1 N1 → Calls Tryz.prog 72 #[.pointer (some ⟨w0.heap.size, 0, none⟩), .string k] x (WP w0 x s2 N2)))
    (HV : Hid (∀ x, WrS w0 x s2 N2 → Calls Tryz.prog 72 #[.pointer (some ⟨w0.heap.size, 0, none⟩), .string v] x (WP w0 x s3 N3)))
    (HT : Hid (∀ x, WrS w0 x s3 N3 → Calls Tryz.prog 71 #[.pointer (some ⟨w0.heap.size, 0, none⟩), .int .i64 t] x (WP w0 x s4 N4))) :
    Calls Tryz.prog 74 #[.pointer (some ⟨w0.heap.size, 0, none⟩), .agg #[.bool true, .string k, .bool true, .string v, .int .i64 t, .int .i64 o]] w (WP w0 w s4 N4) := by
  obtain ⟨a, m, c, c0, c1, f0, f1, hz⟩ := hw.open
  rw [← hbad] at c1
  have HNE : Hid (w.heap.size ≠ w0.heap.size) := by show _ ≠ _; omega
  have hne1 : ¬ w0.heap.size = w.heap.size := by omega
  have hne2 : ¬ w.heap.size = w0.heap.size := by omega
  have HS0 : Hid _ := hw.setBad s0 cc hcc hst
  have hsz : (w.setCell ⟨w0.heap.size, 1, none⟩ (.bool cc)).heap.size = w.heap.size := by simp [World.setCell]
  have HS : Hid (WrS w0 ((w.setCell ⟨w0.heap.size, 1, none⟩ (.bool cc)).alloc (.cells #[.bool true, .string k, .bool true, .string v, .int .i64 t, .int .i64 o] 84)) s0 N ∧ KeepT w0.heap.size w ((w.setCell ⟨w0.heap.size, 1, none⟩ (.bool cc)).alloc (.cells #[.bool true, .string k, .bool true, .string v, .int .i64 t, .int .i64 o] 84))) := ⟨HS0.out.1.below (below_box _), HS0.out.2.trans (KeepT.of_below (below_box _))⟩
  have HX : Hid (((w.setCell ⟨w0.heap.size, 1, none⟩ (.bool cc)).alloc (.cells #[.bool true, .string k, .bool true, .string v, .int .i64 t, .int .i64 o] 84)).heap[w.heap.size]? = some (.cells #[.bool true, .string k, .bool true, .string v, .int .i64 t, .int .i64 o] 84 (0, 0))) := by
    have q := heap_alloc_new (w.setCell ⟨w0.heap.size, 1, none⟩ (.bool cc)) (.cells #[.bool true, .string k, .bool true, .string v, .int .i64 t, .int .i64 o] 84)
    rw [hsz] at q
    exact q
  have hok : okR ⟨true, k, true, v, t, o⟩ = (decide (o = 0) && true && true) := by
    rfl
  rw [hok] at hc
  clear hw hst hbad hcc HS0 hok hsz
  have hoB : (o != 0) = !(decide (o = 0)) := by simp [bne, BEq.beq]
  cases bad
  · by_cases ho : o = 0
    · have hoE : (o != 0) = false := by rw [hoB, decide_eq_true ho]; rfl
      rw [decide_eq_true ho] at hc
      clear hoB ho
      obtain rfl : cc = false := by rw [hc]; rfl
      clear hc
      go_enter Tryz.func74, Tryz.ntmps74
      go_wp2_with (first
            | (go_at_call 91; refine (HM.out _).mono ?_; rintro e w1 ⟨rfl, hb1⟩; have HS1 : Hid _ := WrS.below HS.out.1 hb1; have HX1 : Hid (w1.heap[w.heap.size]? = some (.cells #[.bool true, .string k, .bool true, .string v, .int .i64 t, .int .i64 o] 84 (0, 0))) := (hb1.block _ (Array.getElem?_eq_some_iff.1 HX.out).1).trans HX.out; have HK1 : Hid (KeepT w0.heap.size w w1) := HS.out.2.trans (KeepT.of_below hb1); clear hb1)
            | (have _h := HS1; go_at_call 30; refine (HN.out _ HS1.out).mono ?_; rintro e w2 ⟨rfl, hw2, hk2⟩; have HS2 : Hid _ := hw2; have HX2 : Hid (w2.heap[w.heap.size]? = some (.cells #[.bool true, .string k, .bool true, .string v, .int .i64 t, .int .i64 o] 84 (0, 0))) := hk2.box HX1.out HNE.out (by decide); have HK2 : Hid (KeepT w0.heap.size w w2) := HK1.out.trans hk2; obtain ⟨d0, d1, d2, d3, d4, d5, d6⟩ := rc_box (r := ⟨true, k, true, v, t, o⟩) HX2.out; simp only at d0 d1 d2 d3 d4 d5; clear _h hw2 hk2)
            | (have _h := HS2; go_at_call 72; refine (HK.out _ HS2.out).mono ?_; rintro e w3 ⟨rfl, hw3, hk3⟩; have HS3 : Hid _ := hw3; have HX3 : Hid (w3.heap[w.heap.size]? = some (.cells #[.bool true, .string k, .bool true, .string v, .int .i64 t, .int .i64 o] 84 (0, 0))) := hk3.box HX2.out HNE.out (by decide); have HK3 : Hid (KeepT w0.heap.size w w3) := HK2.out.trans hk3; obtain ⟨d0, d1, d2, d3, d4, d5, d6⟩ := rc_box (r := ⟨true, k, true, v, t, o⟩) HX3.out; simp only at d0 d1 d2 d3 d4 d5; clear _h HS2 hw3 hk3)
            | (have _h := HS3; go_at_call 72; refine (HV.out _ HS3.out).mono ?_; rintro e w4 ⟨rfl, hw4, hk4⟩; have HS4 : Hid _ := hw4; have HX4 : Hid (w4.heap[w.heap.size]? = some (.cells #[.bool true, .string k, .bool true, .string v, .int .i64 t, .int .i64 o] 84 (0, 0))) := hk4.box HX3.out HNE.out (by decide); have HK4 : Hid (KeepT w0.heap.size w w4) := HK3.out.trans hk4; obtain ⟨d0, d1, d2, d3, d4, d5, d6⟩ := rc_box (r := ⟨true, k, true, v, t, o⟩) HX4.out; simp only at d0 d1 d2 d3 d4 d5; clear _h HS3 hw4 hk4)
            | (have _h := HS4; go_at_call 71; refine (HT.out _ HS4.out).mono ?_; rintro e w5 ⟨rfl, hw5, hk5⟩; clear _h))
      all_goals
        go_end0
        exact ⟨rfl, hw5, HK4.out.trans hk5⟩
    · have hoE : (o != 0) = true := by rw [hoB, decide_eq_false ho]; rfl
      rw [decide_eq_false ho] at hc
      clear hoB ho
      obtain rfl : cc = true := by rw [hc]; rfl
      clear hc
      go_enter Tryz.func74, Tryz.ntmps74
      go_wp2_with (first
            | (go_at_call 91; refine (HM.out _).mono ?_; rintro e w1 ⟨rfl, hb1⟩; have HS1 : Hid _ := WrS.below HS.out.1 hb1; have HX1 : Hid (w1.heap[w.heap.size]? = some (.cells #[.bool true, .string k, .bool true, .string v, .int .i64 t, .int .i64 o] 84 (0, 0))) := (hb1.block _ (Array.getElem?_eq_some_iff.1 HX.out).1).trans HX.out; have HK1 : Hid (KeepT w0.heap.size w w1) := HS.out.2.trans (KeepT.of_below hb1); clear hb1)
            | (have _h := HS1; go_at_call 30; refine (HN.out _ HS1.out).mono ?_; rintro e w2 ⟨rfl, hw2, hk2⟩; have HS2 : Hid _ := hw2; have HX2 : Hid (w2.heap[w.heap.size]? = some (.cells #[.bool true, .string k, .bool true, .string v, .int .i64 t, .int .i64 o] 84 (0, 0))) := hk2.box HX1.out HNE.out (by decide); have HK2 : Hid (KeepT w0.heap.size w w2) := HK1.out.trans hk2; obtain ⟨d0, d1, d2, d3, d4, d5, d6⟩ := rc_box (r := ⟨true, k, true, v, t, o⟩) HX2.out; simp only at d0 d1 d2 d3 d4 d5; clear _h hw2 hk2)
            | (have _h := HS2; go_at_call 72; refine (HK.out _ HS2.out).mono ?_; rintro e w3 ⟨rfl, hw3, hk3⟩; have HS3 : Hid _ := hw3; have HX3 : Hid (w3.heap[w.heap.size]? = some (.cells #[.bool true, .string k, .bool true, .string v, .int .i64 t, .int .i64 o] 84 (0, 0))) := hk3.box HX2.out HNE.out (by decide); have HK3 : Hid (KeepT w0.heap.size w w3) := HK2.out.trans hk3; obtain ⟨d0, d1, d2, d3, d4, d5, d6⟩ := rc_box (r := ⟨true, k, true, v, t, o⟩) HX3.out; simp only at d0 d1 d2 d3 d4 d5; clear _h HS2 hw3 hk3)
            | (have _h := HS3; go_at_call 72; refine (HV.out _ HS3.out).mono ?_; rintro e w4 ⟨rfl, hw4, hk4⟩; have HS4 : Hid _ := hw4; have HX4 : Hid (w4.heap[w.heap.size]? = some (.cells #[.bool true, .string k, .bool true, .string v, .int .i64 t, .int .i64 o] 84 (0, 0))) := hk4.box HX3.out HNE.out (by decide); have HK4 : Hid (KeepT w0.heap.size w w4) := HK3.out.trans hk4; obtain ⟨d0, d1, d2, d3, d4, d5, d6⟩ := rc_box (r := ⟨true, k, true, v, t, o⟩) HX4.out; simp only at d0 d1 d2 d3 d4 d5; clear _h HS3 hw4 hk4)
            | (have _h := HS4; go_at_call 71; refine (HT.out _ HS4.out).mono ?_; rintro e w5 ⟨rfl, hw5, hk5⟩; clear _h))
      all_goals
        go_end0
        exact ⟨rfl, hw5, HK4.out.trans hk5⟩
  · obtain rfl : cc = true := by rw [hc]; rfl
    clear hc hoB
    go_enter Tryz.func74, Tryz.ntmps74
    go_wp2_with (first
          | (go_at_call 91; refine (HM.out _).mono ?_; rintro e w1 ⟨rfl, hb1⟩; have HS1 : Hid _ := WrS.below HS.out.1 hb1; have HX1 : Hid (w1.heap[w.heap.size]? = some (.cells #[.bool true, .string k, .bool true, .string v, .int .i64 t, .int .i64 o] 84 (0, 0))) := (hb1.block _ (Array.getElem?_eq_some_iff.1 HX.out).1).trans HX.out; have HK1 : Hid (KeepT w0.heap.size w w1) := HS.out.2.trans (KeepT.of_below hb1); clear hb1)
          | (have _h := HS1; go_at_call 30; refine (HN.out _ HS1.out).mono ?_; rintro e w2 ⟨rfl, hw2, hk2⟩; have HS2 : Hid _ := hw2; have HX2 : Hid (w2.heap[w.heap.size]? = some (.cells #[.bool true, .string k, .bool true, .string v, .int .i64 t, .int .i64 o] 84 (0, 0))) := hk2.box HX1.out HNE.out (by decide); have HK2 : Hid (KeepT w0.heap.size w w2) := HK1.out.trans hk2; obtain ⟨d0, d1, d2, d3, d4, d5, d6⟩ := rc_box (r := ⟨true, k, true, v, t, o⟩) HX2.out; simp only at d0 d1 d2 d3 d4 d5; clear _h hw2 hk2)
          | (have _h := HS2; go_at_call 72; refine (HK.out _ HS2.out).mono ?_; rintro e w3 ⟨rfl, hw3, hk3⟩; have HS3 : Hid _ := hw3; have HX3 : Hid (w3.heap[w.heap.size]? = some (.cells #[.bool true, .string k, .bool true, .string v, .int .i64 t, .int .i64 o] 84 (0, 0))) := hk3.box HX2.out HNE.out (by decide); have HK3 : Hid (KeepT w0.heap.size w w3) := HK2.out.trans hk3; obtain ⟨d0, d1, d2, d3, d4, d5, d6⟩ := rc_box (r := ⟨true, k, true, v, t, o⟩) HX3.out; simp only at d0 d1 d2 d3 d4 d5; clear _h HS2 hw3 hk3)
          | (have _h := HS3; go_at_call 72; refine (HV.out _ HS3.out).mono ?_; rintro e w4 ⟨rfl, hw4, hk4⟩; have HS4 : Hid _ := hw4; have HX4 : Hid (w4.heap[w.heap.size]? = some (.cells #[.bool true, .string k, .bool true, .string v, .int .i64 t, .int .i64 o] 84 (0, 0))) := hk4.box HX3.out HNE.out (by decide); have HK4 : Hid (KeepT w0.heap.size w w4) := HK3.out.trans hk4; obtain ⟨d0, d1, d2, d3, d4, d5, d6⟩ := rc_box (r := ⟨true, k, true, v, t, o⟩) HX4.out; simp only at d0 d1 d2 d3 d4 d5; clear _h HS3 hw4 hk4)
          | (have _h := HS4; go_at_call 71; refine (HT.out _ HS4.out).mono ?_; rintro e w5 ⟨rfl, hw5, hk5⟩; clear _h))
    all_goals
      go_end0
      exact ⟨rfl, hw5, HK4.out.trans hk5⟩
set_option maxHeartbeats 400000 in
set_option maxRecDepth 100000 in
theorem wrec_tf (w0 w : World) (st s0 s1 s2 s3 s4 : Ls) (N1 N2 N3 N4 N : Nat) (M : Int) (k v : ByteArray) (t o : Int) (bad cc : Bool) (hbad : bad = st.isNone) (hcc : cc = s0.isNone) (hw : WrS w0 w st N)
    (hc : cc = (bad || !(okR ⟨true, k, false, v, t, o⟩))) (hst : ∀ L, s0 = some L → st = some L) (N5 : Nat)
    (HM : Hid (∀ x, Calls Tryz.prog 91 #[.agg #[.bool true, .string k, .bool false, .string v, .int .i64 t, .int .i64 o]] x fun e w' => e = .returned (.int .i64 M) ∧ Below x.heap.size x w'))
    (HN : Hid (∀ x, WrS w0 x s0 N → Calls Tryz.prog 30 #[.pointer (some ⟨w0.heap.size, 0, none⟩), .int .i64 1, .int .i64 M] x (WP w0 x s1 N1)))
    (HK : Hid (∀ x, WrS w0 x s1 N1 → Calls Tryz.prog 72 #[.pointer (some ⟨w0.heap.size, 0, none⟩), .string k] x (WP w0 x s2 N2)))
    (HV : Hid (∀ x, WrS w0 x s2 N2 → Calls Tryz.prog 72 #[.pointer (some ⟨w0.heap.size, 0, none⟩), .string v] x (WP w0 x s3 N3)))
    (HT : Hid (∀ x, WrS w0 x s2 N2 → Calls Tryz.prog 71 #[.pointer (some ⟨w0.heap.size, 0, none⟩), .int .i64 t] x (WP w0 x s4 N4))) :
    Calls Tryz.prog 74 #[.pointer (some ⟨w0.heap.size, 0, none⟩), .agg #[.bool true, .string k, .bool false, .string v, .int .i64 t, .int .i64 o]] w (WP w0 w s4 N4) := by
  obtain ⟨a, m, c, c0, c1, f0, f1, hz⟩ := hw.open
  rw [← hbad] at c1
  have HNE : Hid (w.heap.size ≠ w0.heap.size) := by show _ ≠ _; omega
  have hne1 : ¬ w0.heap.size = w.heap.size := by omega
  have hne2 : ¬ w.heap.size = w0.heap.size := by omega
  have HS0 : Hid _ := hw.setBad s0 cc hcc hst
  have hsz : (w.setCell ⟨w0.heap.size, 1, none⟩ (.bool cc)).heap.size = w.heap.size := by simp [World.setCell]
  have HS : Hid (WrS w0 ((w.setCell ⟨w0.heap.size, 1, none⟩ (.bool cc)).alloc (.cells #[.bool true, .string k, .bool false, .string v, .int .i64 t, .int .i64 o] 84)) s0 N ∧ KeepT w0.heap.size w ((w.setCell ⟨w0.heap.size, 1, none⟩ (.bool cc)).alloc (.cells #[.bool true, .string k, .bool false, .string v, .int .i64 t, .int .i64 o] 84))) := ⟨HS0.out.1.below (below_box _), HS0.out.2.trans (KeepT.of_below (below_box _))⟩
  have HX : Hid (((w.setCell ⟨w0.heap.size, 1, none⟩ (.bool cc)).alloc (.cells #[.bool true, .string k, .bool false, .string v, .int .i64 t, .int .i64 o] 84)).heap[w.heap.size]? = some (.cells #[.bool true, .string k, .bool false, .string v, .int .i64 t, .int .i64 o] 84 (0, 0))) := by
    have q := heap_alloc_new (w.setCell ⟨w0.heap.size, 1, none⟩ (.bool cc)) (.cells #[.bool true, .string k, .bool false, .string v, .int .i64 t, .int .i64 o] 84)
    rw [hsz] at q
    exact q
  have hok : okR ⟨true, k, false, v, t, o⟩ = (decide (o = 0) && true && v.toList.isEmpty) := by
    rw [str_nil v]; rfl
  rw [hok] at hc
  clear hw hst hbad hcc HS0 hok hsz
  have hoB : (o != 0) = !(decide (o = 0)) := by simp [bne, BEq.beq]
  cases bad
  · by_cases ho : o = 0
    · have hoE : (o != 0) = false := by rw [hoB, decide_eq_true ho]; rfl
      rw [decide_eq_true ho] at hc
      clear hoB ho
      cases hvq : v.toList.isEmpty with
      | false =>
        rw [hvq] at hc
        obtain rfl : cc = true := by rw [hc]; rfl
        clear hc
        go_enter Tryz.func74, Tryz.ntmps74
        go_wp2_with (first
              | (go_at_call 91; refine (HM.out _).mono ?_; rintro e w1 ⟨rfl, hb1⟩; have HS1 : Hid _ := WrS.below HS.out.1 hb1; have HX1 : Hid (w1.heap[w.heap.size]? = some (.cells #[.bool true, .string k, .bool false, .string v, .int .i64 t, .int .i64 o] 84 (0, 0))) := (hb1.block _ (Array.getElem?_eq_some_iff.1 HX.out).1).trans HX.out; have HK1 : Hid (KeepT w0.heap.size w w1) := HS.out.2.trans (KeepT.of_below hb1); clear hb1)
              | (have _h := HS1; go_at_call 30; refine (HN.out _ HS1.out).mono ?_; rintro e w2 ⟨rfl, hw2, hk2⟩; have HS2 : Hid _ := hw2; have HX2 : Hid (w2.heap[w.heap.size]? = some (.cells #[.bool true, .string k, .bool false, .string v, .int .i64 t, .int .i64 o] 84 (0, 0))) := hk2.box HX1.out HNE.out (by decide); have HK2 : Hid (KeepT w0.heap.size w w2) := HK1.out.trans hk2; obtain ⟨d0, d1, d2, d3, d4, d5, d6⟩ := rc_box (r := ⟨true, k, false, v, t, o⟩) HX2.out; simp only at d0 d1 d2 d3 d4 d5; clear _h hw2 hk2)
              | (have _h := HS2; go_at_call 72; refine (HK.out _ HS2.out).mono ?_; rintro e w3 ⟨rfl, hw3, hk3⟩; have HS3 : Hid _ := hw3; have HX3 : Hid (w3.heap[w.heap.size]? = some (.cells #[.bool true, .string k, .bool false, .string v, .int .i64 t, .int .i64 o] 84 (0, 0))) := hk3.box HX2.out HNE.out (by decide); have HK3 : Hid (KeepT w0.heap.size w w3) := HK2.out.trans hk3; obtain ⟨d0, d1, d2, d3, d4, d5, d6⟩ := rc_box (r := ⟨true, k, false, v, t, o⟩) HX3.out; simp only at d0 d1 d2 d3 d4 d5; clear _h HS2 hw3 hk3)
              | (have _h := HS3; go_at_call 71; refine (HT.out _ HS3.out).mono ?_; rintro e w5 ⟨rfl, hw5, hk5⟩; clear _h))
        all_goals
          go_end0
          exact ⟨rfl, hw5, HK3.out.trans hk5⟩
      | true =>
        rw [hvq] at hc
        obtain rfl : cc = false := by rw [hc]; rfl
        clear hc
        go_enter Tryz.func74, Tryz.ntmps74
        go_wp2_with (first
              | (go_at_call 91; refine (HM.out _).mono ?_; rintro e w1 ⟨rfl, hb1⟩; have HS1 : Hid _ := WrS.below HS.out.1 hb1; have HX1 : Hid (w1.heap[w.heap.size]? = some (.cells #[.bool true, .string k, .bool false, .string v, .int .i64 t, .int .i64 o] 84 (0, 0))) := (hb1.block _ (Array.getElem?_eq_some_iff.1 HX.out).1).trans HX.out; have HK1 : Hid (KeepT w0.heap.size w w1) := HS.out.2.trans (KeepT.of_below hb1); clear hb1)
              | (have _h := HS1; go_at_call 30; refine (HN.out _ HS1.out).mono ?_; rintro e w2 ⟨rfl, hw2, hk2⟩; have HS2 : Hid _ := hw2; have HX2 : Hid (w2.heap[w.heap.size]? = some (.cells #[.bool true, .string k, .bool false, .string v, .int .i64 t, .int .i64 o] 84 (0, 0))) := hk2.box HX1.out HNE.out (by decide); have HK2 : Hid (KeepT w0.heap.size w w2) := HK1.out.trans hk2; obtain ⟨d0, d1, d2, d3, d4, d5, d6⟩ := rc_box (r := ⟨true, k, false, v, t, o⟩) HX2.out; simp only at d0 d1 d2 d3 d4 d5; clear _h hw2 hk2)
              | (have _h := HS2; go_at_call 72; refine (HK.out _ HS2.out).mono ?_; rintro e w3 ⟨rfl, hw3, hk3⟩; have HS3 : Hid _ := hw3; have HX3 : Hid (w3.heap[w.heap.size]? = some (.cells #[.bool true, .string k, .bool false, .string v, .int .i64 t, .int .i64 o] 84 (0, 0))) := hk3.box HX2.out HNE.out (by decide); have HK3 : Hid (KeepT w0.heap.size w w3) := HK2.out.trans hk3; obtain ⟨d0, d1, d2, d3, d4, d5, d6⟩ := rc_box (r := ⟨true, k, false, v, t, o⟩) HX3.out; simp only at d0 d1 d2 d3 d4 d5; clear _h HS2 hw3 hk3)
              | (have _h := HS3; go_at_call 71; refine (HT.out _ HS3.out).mono ?_; rintro e w5 ⟨rfl, hw5, hk5⟩; clear _h))
        all_goals
          go_end0
          exact ⟨rfl, hw5, HK3.out.trans hk5⟩
    · have hoE : (o != 0) = true := by rw [hoB, decide_eq_false ho]; rfl
      rw [decide_eq_false ho] at hc
      clear hoB ho
      obtain rfl : cc = true := by rw [hc]; rfl
      clear hc
      go_enter Tryz.func74, Tryz.ntmps74
      go_wp2_with (first
            | (go_at_call 91; refine (HM.out _).mono ?_; rintro e w1 ⟨rfl, hb1⟩; have HS1 : Hid _ := WrS.below HS.out.1 hb1; have HX1 : Hid (w1.heap[w.heap.size]? = some (.cells #[.bool true, .string k, .bool false, .string v, .int .i64 t, .int .i64 o] 84 (0, 0))) := (hb1.block _ (Array.getElem?_eq_some_iff.1 HX.out).1).trans HX.out; have HK1 : Hid (KeepT w0.heap.size w w1) := HS.out.2.trans (KeepT.of_below hb1); clear hb1)
            | (have _h := HS1; go_at_call 30; refine (HN.out _ HS1.out).mono ?_; rintro e w2 ⟨rfl, hw2, hk2⟩; have HS2 : Hid _ := hw2; have HX2 : Hid (w2.heap[w.heap.size]? = some (.cells #[.bool true, .string k, .bool false, .string v, .int .i64 t, .int .i64 o] 84 (0, 0))) := hk2.box HX1.out HNE.out (by decide); have HK2 : Hid (KeepT w0.heap.size w w2) := HK1.out.trans hk2; obtain ⟨d0, d1, d2, d3, d4, d5, d6⟩ := rc_box (r := ⟨true, k, false, v, t, o⟩) HX2.out; simp only at d0 d1 d2 d3 d4 d5; clear _h hw2 hk2)
            | (have _h := HS2; go_at_call 72; refine (HK.out _ HS2.out).mono ?_; rintro e w3 ⟨rfl, hw3, hk3⟩; have HS3 : Hid _ := hw3; have HX3 : Hid (w3.heap[w.heap.size]? = some (.cells #[.bool true, .string k, .bool false, .string v, .int .i64 t, .int .i64 o] 84 (0, 0))) := hk3.box HX2.out HNE.out (by decide); have HK3 : Hid (KeepT w0.heap.size w w3) := HK2.out.trans hk3; obtain ⟨d0, d1, d2, d3, d4, d5, d6⟩ := rc_box (r := ⟨true, k, false, v, t, o⟩) HX3.out; simp only at d0 d1 d2 d3 d4 d5; clear _h HS2 hw3 hk3)
            | (have _h := HS3; go_at_call 71; refine (HT.out _ HS3.out).mono ?_; rintro e w5 ⟨rfl, hw5, hk5⟩; clear _h))
      all_goals
        go_end0
        exact ⟨rfl, hw5, HK3.out.trans hk5⟩
  · obtain rfl : cc = true := by rw [hc]; rfl
    clear hc hoB
    go_enter Tryz.func74, Tryz.ntmps74
    go_wp2_with (first
          | (go_at_call 91; refine (HM.out _).mono ?_; rintro e w1 ⟨rfl, hb1⟩; have HS1 : Hid _ := WrS.below HS.out.1 hb1; have HX1 : Hid (w1.heap[w.heap.size]? = some (.cells #[.bool true, .string k, .bool false, .string v, .int .i64 t, .int .i64 o] 84 (0, 0))) := (hb1.block _ (Array.getElem?_eq_some_iff.1 HX.out).1).trans HX.out; have HK1 : Hid (KeepT w0.heap.size w w1) := HS.out.2.trans (KeepT.of_below hb1); clear hb1)
          | (have _h := HS1; go_at_call 30; refine (HN.out _ HS1.out).mono ?_; rintro e w2 ⟨rfl, hw2, hk2⟩; have HS2 : Hid _ := hw2; have HX2 : Hid (w2.heap[w.heap.size]? = some (.cells #[.bool true, .string k, .bool false, .string v, .int .i64 t, .int .i64 o] 84 (0, 0))) := hk2.box HX1.out HNE.out (by decide); have HK2 : Hid (KeepT w0.heap.size w w2) := HK1.out.trans hk2; obtain ⟨d0, d1, d2, d3, d4, d5, d6⟩ := rc_box (r := ⟨true, k, false, v, t, o⟩) HX2.out; simp only at d0 d1 d2 d3 d4 d5; clear _h hw2 hk2)
          | (have _h := HS2; go_at_call 72; refine (HK.out _ HS2.out).mono ?_; rintro e w3 ⟨rfl, hw3, hk3⟩; have HS3 : Hid _ := hw3; have HX3 : Hid (w3.heap[w.heap.size]? = some (.cells #[.bool true, .string k, .bool false, .string v, .int .i64 t, .int .i64 o] 84 (0, 0))) := hk3.box HX2.out HNE.out (by decide); have HK3 : Hid (KeepT w0.heap.size w w3) := HK2.out.trans hk3; obtain ⟨d0, d1, d2, d3, d4, d5, d6⟩ := rc_box (r := ⟨true, k, false, v, t, o⟩) HX3.out; simp only at d0 d1 d2 d3 d4 d5; clear _h HS2 hw3 hk3)
          | (have _h := HS3; go_at_call 71; refine (HT.out _ HS3.out).mono ?_; rintro e w5 ⟨rfl, hw5, hk5⟩; clear _h))
    all_goals
      go_end0
      exact ⟨rfl, hw5, HK3.out.trans hk5⟩
set_option maxHeartbeats 400000 in
set_option maxRecDepth 100000 in
theorem wrec_ft (w0 w : World) (st s0 s1 s2 s3 s4 : Ls) (N1 N2 N3 N4 N : Nat) (M : Int) (k v : ByteArray) (t o : Int) (bad cc : Bool) (hbad : bad = st.isNone) (hcc : cc = s0.isNone) (hw : WrS w0 w st N)
    (hc : cc = (bad || !(okR ⟨false, k, true, v, t, o⟩))) (hst : ∀ L, s0 = some L → st = some L) (N5 : Nat)
    (HM : Hid (∀ x, Calls Tryz.prog 91 #[.agg #[.bool false, .string k, .bool true, .string v, .int .i64 t, .int .i64 o]] x fun e w' => e = .returned (.int .i64 M) ∧ Below x.heap.size x w'))
    (HN : Hid (∀ x, WrS w0 x s0 N → Calls Tryz.prog 30 #[.pointer (some ⟨w0.heap.size, 0, none⟩), .int .i64 1, .int .i64 M] x (WP w0 x s1 N1)))
    (HK : Hid (∀ x, WrS w0 x s1 N1 → Calls Tryz.prog 72 #[.pointer (some ⟨w0.heap.size, 0, none⟩), .string k] x (WP w0 x s2 N2)))
    (HV : Hid (∀ x, WrS w0 x s1 N1 → Calls Tryz.prog 72 #[.pointer (some ⟨w0.heap.size, 0, none⟩), .string v] x (WP w0 x s3 N3)))
    (HT : Hid (∀ x, WrS w0 x s3 N3 → Calls Tryz.prog 71 #[.pointer (some ⟨w0.heap.size, 0, none⟩), .int .i64 t] x (WP w0 x s4 N4))) :
    Calls Tryz.prog 74 #[.pointer (some ⟨w0.heap.size, 0, none⟩), .agg #[.bool false, .string k, .bool true, .string v, .int .i64 t, .int .i64 o]] w (WP w0 w s4 N4) := by
  obtain ⟨a, m, c, c0, c1, f0, f1, hz⟩ := hw.open
  rw [← hbad] at c1
  have HNE : Hid (w.heap.size ≠ w0.heap.size) := by show _ ≠ _; omega
  have hne1 : ¬ w0.heap.size = w.heap.size := by omega
  have hne2 : ¬ w.heap.size = w0.heap.size := by omega
  have HS0 : Hid _ := hw.setBad s0 cc hcc hst
  have hsz : (w.setCell ⟨w0.heap.size, 1, none⟩ (.bool cc)).heap.size = w.heap.size := by simp [World.setCell]
  have HS : Hid (WrS w0 ((w.setCell ⟨w0.heap.size, 1, none⟩ (.bool cc)).alloc (.cells #[.bool false, .string k, .bool true, .string v, .int .i64 t, .int .i64 o] 84)) s0 N ∧ KeepT w0.heap.size w ((w.setCell ⟨w0.heap.size, 1, none⟩ (.bool cc)).alloc (.cells #[.bool false, .string k, .bool true, .string v, .int .i64 t, .int .i64 o] 84))) := ⟨HS0.out.1.below (below_box _), HS0.out.2.trans (KeepT.of_below (below_box _))⟩
  have HX : Hid (((w.setCell ⟨w0.heap.size, 1, none⟩ (.bool cc)).alloc (.cells #[.bool false, .string k, .bool true, .string v, .int .i64 t, .int .i64 o] 84)).heap[w.heap.size]? = some (.cells #[.bool false, .string k, .bool true, .string v, .int .i64 t, .int .i64 o] 84 (0, 0))) := by
    have q := heap_alloc_new (w.setCell ⟨w0.heap.size, 1, none⟩ (.bool cc)) (.cells #[.bool false, .string k, .bool true, .string v, .int .i64 t, .int .i64 o] 84)
    rw [hsz] at q
    exact q
  have hok : okR ⟨false, k, true, v, t, o⟩ = (decide (o = 0) && k.toList.isEmpty && true) := by
    rw [str_nil k]; rfl
  rw [hok] at hc
  clear hw hst hbad hcc HS0 hok hsz
  have hoB : (o != 0) = !(decide (o = 0)) := by simp [bne, BEq.beq]
  cases bad
  · by_cases ho : o = 0
    · have hoE : (o != 0) = false := by rw [hoB, decide_eq_true ho]; rfl
      rw [decide_eq_true ho] at hc
      clear hoB ho
      cases hkq : k.toList.isEmpty with
      | false =>
        rw [hkq] at hc
        obtain rfl : cc = true := by rw [hc]; rfl
        clear hc
        go_enter Tryz.func74, Tryz.ntmps74
        go_wp2_with (first
              | (go_at_call 91; refine (HM.out _).mono ?_; rintro e w1 ⟨rfl, hb1⟩; have HS1 : Hid _ := WrS.below HS.out.1 hb1; have HX1 : Hid (w1.heap[w.heap.size]? = some (.cells #[.bool false, .string k, .bool true, .string v, .int .i64 t, .int .i64 o] 84 (0, 0))) := (hb1.block _ (Array.getElem?_eq_some_iff.1 HX.out).1).trans HX.out; have HK1 : Hid (KeepT w0.heap.size w w1) := HS.out.2.trans (KeepT.of_below hb1); clear hb1)
              | (have _h := HS1; go_at_call 30; refine (HN.out _ HS1.out).mono ?_; rintro e w2 ⟨rfl, hw2, hk2⟩; have HS2 : Hid _ := hw2; have HX2 : Hid (w2.heap[w.heap.size]? = some (.cells #[.bool false, .string k, .bool true, .string v, .int .i64 t, .int .i64 o] 84 (0, 0))) := hk2.box HX1.out HNE.out (by decide); have HK2 : Hid (KeepT w0.heap.size w w2) := HK1.out.trans hk2; obtain ⟨d0, d1, d2, d3, d4, d5, d6⟩ := rc_box (r := ⟨false, k, true, v, t, o⟩) HX2.out; simp only at d0 d1 d2 d3 d4 d5; clear _h hw2 hk2)
              | (have _h := HS2; go_at_call 72; refine (HV.out _ HS2.out).mono ?_; rintro e w4 ⟨rfl, hw4, hk4⟩; have HS4 : Hid _ := hw4; have HX4 : Hid (w4.heap[w.heap.size]? = some (.cells #[.bool false, .string k, .bool true, .string v, .int .i64 t, .int .i64 o] 84 (0, 0))) := hk4.box HX2.out HNE.out (by decide); have HK4 : Hid (KeepT w0.heap.size w w4) := HK2.out.trans hk4; obtain ⟨d0, d1, d2, d3, d4, d5, d6⟩ := rc_box (r := ⟨false, k, true, v, t, o⟩) HX4.out; simp only at d0 d1 d2 d3 d4 d5; clear _h HS2 hw4 hk4)
              | (have _h := HS4; go_at_call 71; refine (HT.out _ HS4.out).mono ?_; rintro e w5 ⟨rfl, hw5, hk5⟩; clear _h))
        all_goals
          go_end0
          exact ⟨rfl, hw5, HK4.out.trans hk5⟩
      | true =>
        rw [hkq] at hc
        obtain rfl : cc = false := by rw [hc]; rfl
        clear hc
        go_enter Tryz.func74, Tryz.ntmps74
        go_wp2_with (first
              | (go_at_call 91; refine (HM.out _).mono ?_; rintro e w1 ⟨rfl, hb1⟩; have HS1 : Hid _ := WrS.below HS.out.1 hb1; have HX1 : Hid (w1.heap[w.heap.size]? = some (.cells #[.bool false, .string k, .bool true, .string v, .int .i64 t, .int .i64 o] 84 (0, 0))) := (hb1.block _ (Array.getElem?_eq_some_iff.1 HX.out).1).trans HX.out; have HK1 : Hid (KeepT w0.heap.size w w1) := HS.out.2.trans (KeepT.of_below hb1); clear hb1)
              | (have _h := HS1; go_at_call 30; refine (HN.out _ HS1.out).mono ?_; rintro e w2 ⟨rfl, hw2, hk2⟩; have HS2 : Hid _ := hw2; have HX2 : Hid (w2.heap[w.heap.size]? = some (.cells #[.bool false, .string k, .bool true, .string v, .int .i64 t, .int .i64 o] 84 (0, 0))) := hk2.box HX1.out HNE.out (by decide); have HK2 : Hid (KeepT w0.heap.size w w2) := HK1.out.trans hk2; obtain ⟨d0, d1, d2, d3, d4, d5, d6⟩ := rc_box (r := ⟨false, k, true, v, t, o⟩) HX2.out; simp only at d0 d1 d2 d3 d4 d5; clear _h hw2 hk2)
              | (have _h := HS2; go_at_call 72; refine (HV.out _ HS2.out).mono ?_; rintro e w4 ⟨rfl, hw4, hk4⟩; have HS4 : Hid _ := hw4; have HX4 : Hid (w4.heap[w.heap.size]? = some (.cells #[.bool false, .string k, .bool true, .string v, .int .i64 t, .int .i64 o] 84 (0, 0))) := hk4.box HX2.out HNE.out (by decide); have HK4 : Hid (KeepT w0.heap.size w w4) := HK2.out.trans hk4; obtain ⟨d0, d1, d2, d3, d4, d5, d6⟩ := rc_box (r := ⟨false, k, true, v, t, o⟩) HX4.out; simp only at d0 d1 d2 d3 d4 d5; clear _h HS2 hw4 hk4)
              | (have _h := HS4; go_at_call 71; refine (HT.out _ HS4.out).mono ?_; rintro e w5 ⟨rfl, hw5, hk5⟩; clear _h))
        all_goals
          go_end0
          exact ⟨rfl, hw5, HK4.out.trans hk5⟩
    · have hoE : (o != 0) = true := by rw [hoB, decide_eq_false ho]; rfl
      rw [decide_eq_false ho] at hc
      clear hoB ho
      obtain rfl : cc = true := by rw [hc]; rfl
      clear hc
      go_enter Tryz.func74, Tryz.ntmps74
      go_wp2_with (first
            | (go_at_call 91; refine (HM.out _).mono ?_; rintro e w1 ⟨rfl, hb1⟩; have HS1 : Hid _ := WrS.below HS.out.1 hb1; have HX1 : Hid (w1.heap[w.heap.size]? = some (.cells #[.bool false, .string k, .bool true, .string v, .int .i64 t, .int .i64 o] 84 (0, 0))) := (hb1.block _ (Array.getElem?_eq_some_iff.1 HX.out).1).trans HX.out; have HK1 : Hid (KeepT w0.heap.size w w1) := HS.out.2.trans (KeepT.of_below hb1); clear hb1)
            | (have _h := HS1; go_at_call 30; refine (HN.out _ HS1.out).mono ?_; rintro e w2 ⟨rfl, hw2, hk2⟩; have HS2 : Hid _ := hw2; have HX2 : Hid (w2.heap[w.heap.size]? = some (.cells #[.bool false, .string k, .bool true, .string v, .int .i64 t, .int .i64 o] 84 (0, 0))) := hk2.box HX1.out HNE.out (by decide); have HK2 : Hid (KeepT w0.heap.size w w2) := HK1.out.trans hk2; obtain ⟨d0, d1, d2, d3, d4, d5, d6⟩ := rc_box (r := ⟨false, k, true, v, t, o⟩) HX2.out; simp only at d0 d1 d2 d3 d4 d5; clear _h hw2 hk2)
            | (have _h := HS2; go_at_call 72; refine (HV.out _ HS2.out).mono ?_; rintro e w4 ⟨rfl, hw4, hk4⟩; have HS4 : Hid _ := hw4; have HX4 : Hid (w4.heap[w.heap.size]? = some (.cells #[.bool false, .string k, .bool true, .string v, .int .i64 t, .int .i64 o] 84 (0, 0))) := hk4.box HX2.out HNE.out (by decide); have HK4 : Hid (KeepT w0.heap.size w w4) := HK2.out.trans hk4; obtain ⟨d0, d1, d2, d3, d4, d5, d6⟩ := rc_box (r := ⟨false, k, true, v, t, o⟩) HX4.out; simp only at d0 d1 d2 d3 d4 d5; clear _h HS2 hw4 hk4)
            | (have _h := HS4; go_at_call 71; refine (HT.out _ HS4.out).mono ?_; rintro e w5 ⟨rfl, hw5, hk5⟩; clear _h))
      all_goals
        go_end0
        exact ⟨rfl, hw5, HK4.out.trans hk5⟩
  · obtain rfl : cc = true := by rw [hc]; rfl
    clear hc hoB
    go_enter Tryz.func74, Tryz.ntmps74
    go_wp2_with (first
          | (go_at_call 91; refine (HM.out _).mono ?_; rintro e w1 ⟨rfl, hb1⟩; have HS1 : Hid _ := WrS.below HS.out.1 hb1; have HX1 : Hid (w1.heap[w.heap.size]? = some (.cells #[.bool false, .string k, .bool true, .string v, .int .i64 t, .int .i64 o] 84 (0, 0))) := (hb1.block _ (Array.getElem?_eq_some_iff.1 HX.out).1).trans HX.out; have HK1 : Hid (KeepT w0.heap.size w w1) := HS.out.2.trans (KeepT.of_below hb1); clear hb1)
          | (have _h := HS1; go_at_call 30; refine (HN.out _ HS1.out).mono ?_; rintro e w2 ⟨rfl, hw2, hk2⟩; have HS2 : Hid _ := hw2; have HX2 : Hid (w2.heap[w.heap.size]? = some (.cells #[.bool false, .string k, .bool true, .string v, .int .i64 t, .int .i64 o] 84 (0, 0))) := hk2.box HX1.out HNE.out (by decide); have HK2 : Hid (KeepT w0.heap.size w w2) := HK1.out.trans hk2; obtain ⟨d0, d1, d2, d3, d4, d5, d6⟩ := rc_box (r := ⟨false, k, true, v, t, o⟩) HX2.out; simp only at d0 d1 d2 d3 d4 d5; clear _h hw2 hk2)
          | (have _h := HS2; go_at_call 72; refine (HV.out _ HS2.out).mono ?_; rintro e w4 ⟨rfl, hw4, hk4⟩; have HS4 : Hid _ := hw4; have HX4 : Hid (w4.heap[w.heap.size]? = some (.cells #[.bool false, .string k, .bool true, .string v, .int .i64 t, .int .i64 o] 84 (0, 0))) := hk4.box HX2.out HNE.out (by decide); have HK4 : Hid (KeepT w0.heap.size w w4) := HK2.out.trans hk4; obtain ⟨d0, d1, d2, d3, d4, d5, d6⟩ := rc_box (r := ⟨false, k, true, v, t, o⟩) HX4.out; simp only at d0 d1 d2 d3 d4 d5; clear _h HS2 hw4 hk4)
          | (have _h := HS4; go_at_call 71; refine (HT.out _ HS4.out).mono ?_; rintro e w5 ⟨rfl, hw5, hk5⟩; clear _h))
    all_goals
      go_end0
      exact ⟨rfl, hw5, HK4.out.trans hk5⟩
set_option maxHeartbeats 400000 in
set_option maxRecDepth 100000 in
theorem wrec_ff (w0 w : World) (st s0 s1 s2 s3 s4 : Ls) (N1 N2 N3 N4 N : Nat) (M : Int) (k v : ByteArray) (t o : Int) (bad cc : Bool) (hbad : bad = st.isNone) (hcc : cc = s0.isNone) (hw : WrS w0 w st N)
    (hc : cc = (bad || !(okR ⟨false, k, false, v, t, o⟩))) (hst : ∀ L, s0 = some L → st = some L) (N5 : Nat)
    (HM : Hid (∀ x, Calls Tryz.prog 91 #[.agg #[.bool false, .string k, .bool false, .string v, .int .i64 t, .int .i64 o]] x fun e w' => e = .returned (.int .i64 M) ∧ Below x.heap.size x w'))
    (HN : Hid (∀ x, WrS w0 x s0 N → Calls Tryz.prog 30 #[.pointer (some ⟨w0.heap.size, 0, none⟩), .int .i64 1, .int .i64 M] x (WP w0 x s1 N1)))
    (HK : Hid (∀ x, WrS w0 x s1 N1 → Calls Tryz.prog 72 #[.pointer (some ⟨w0.heap.size, 0, none⟩), .string k] x (WP w0 x s2 N2)))
    (HV : Hid (∀ x, WrS w0 x s1 N1 → Calls Tryz.prog 72 #[.pointer (some ⟨w0.heap.size, 0, none⟩), .string v] x (WP w0 x s3 N3)))
    (HT : Hid (∀ x, WrS w0 x s1 N1 → Calls Tryz.prog 71 #[.pointer (some ⟨w0.heap.size, 0, none⟩), .int .i64 t] x (WP w0 x s4 N4))) :
    Calls Tryz.prog 74 #[.pointer (some ⟨w0.heap.size, 0, none⟩), .agg #[.bool false, .string k, .bool false, .string v, .int .i64 t, .int .i64 o]] w (WP w0 w s4 N4) := by
  obtain ⟨a, m, c, c0, c1, f0, f1, hz⟩ := hw.open
  rw [← hbad] at c1
  have HNE : Hid (w.heap.size ≠ w0.heap.size) := by show _ ≠ _; omega
  have hne1 : ¬ w0.heap.size = w.heap.size := by omega
  have hne2 : ¬ w.heap.size = w0.heap.size := by omega
  have HS0 : Hid _ := hw.setBad s0 cc hcc hst
  have hsz : (w.setCell ⟨w0.heap.size, 1, none⟩ (.bool cc)).heap.size = w.heap.size := by simp [World.setCell]
  have HS : Hid (WrS w0 ((w.setCell ⟨w0.heap.size, 1, none⟩ (.bool cc)).alloc (.cells #[.bool false, .string k, .bool false, .string v, .int .i64 t, .int .i64 o] 84)) s0 N ∧ KeepT w0.heap.size w ((w.setCell ⟨w0.heap.size, 1, none⟩ (.bool cc)).alloc (.cells #[.bool false, .string k, .bool false, .string v, .int .i64 t, .int .i64 o] 84))) := ⟨HS0.out.1.below (below_box _), HS0.out.2.trans (KeepT.of_below (below_box _))⟩
  have HX : Hid (((w.setCell ⟨w0.heap.size, 1, none⟩ (.bool cc)).alloc (.cells #[.bool false, .string k, .bool false, .string v, .int .i64 t, .int .i64 o] 84)).heap[w.heap.size]? = some (.cells #[.bool false, .string k, .bool false, .string v, .int .i64 t, .int .i64 o] 84 (0, 0))) := by
    have q := heap_alloc_new (w.setCell ⟨w0.heap.size, 1, none⟩ (.bool cc)) (.cells #[.bool false, .string k, .bool false, .string v, .int .i64 t, .int .i64 o] 84)
    rw [hsz] at q
    exact q
  have hok : okR ⟨false, k, false, v, t, o⟩ = (decide (o = 0) && k.toList.isEmpty && v.toList.isEmpty) := by
    rw [str_nil k, str_nil v]; rfl
  rw [hok] at hc
  clear hw hst hbad hcc HS0 hok hsz
  have hoB : (o != 0) = !(decide (o = 0)) := by simp [bne, BEq.beq]
  cases bad
  · by_cases ho : o = 0
    · have hoE : (o != 0) = false := by rw [hoB, decide_eq_true ho]; rfl
      rw [decide_eq_true ho] at hc
      clear hoB ho
      cases hkq : k.toList.isEmpty with
      | false =>
        rw [hkq] at hc
        obtain rfl : cc = true := by rw [hc]; rfl
        clear hc
        go_enter Tryz.func74, Tryz.ntmps74
        go_wp2_with (first
              | (go_at_call 91; refine (HM.out _).mono ?_; rintro e w1 ⟨rfl, hb1⟩; have HS1 : Hid _ := WrS.below HS.out.1 hb1; have HX1 : Hid (w1.heap[w.heap.size]? = some (.cells #[.bool false, .string k, .bool false, .string v, .int .i64 t, .int .i64 o] 84 (0, 0))) := (hb1.block _ (Array.getElem?_eq_some_iff.1 HX.out).1).trans HX.out; have HK1 : Hid (KeepT w0.heap.size w w1) := HS.out.2.trans (KeepT.of_below hb1); clear hb1)
              | (have _h := HS1; go_at_call 30; refine (HN.out _ HS1.out).mono ?_; rintro e w2 ⟨rfl, hw2, hk2⟩; have HS2 : Hid _ := hw2; have HX2 : Hid (w2.heap[w.heap.size]? = some (.cells #[.bool false, .string k, .bool false, .string v, .int .i64 t, .int .i64 o] 84 (0, 0))) := hk2.box HX1.out HNE.out (by decide); have HK2 : Hid (KeepT w0.heap.size w w2) := HK1.out.trans hk2; obtain ⟨d0, d1, d2, d3, d4, d5, d6⟩ := rc_box (r := ⟨false, k, false, v, t, o⟩) HX2.out; simp only at d0 d1 d2 d3 d4 d5; clear _h hw2 hk2)
              | (have _h := HS2; go_at_call 71; refine (HT.out _ HS2.out).mono ?_; rintro e w5 ⟨rfl, hw5, hk5⟩; clear _h))
        all_goals
          go_end0
          exact ⟨rfl, hw5, HK2.out.trans hk5⟩
      | true =>
        rw [hkq] at hc
        cases hvq : v.toList.isEmpty with
        | false =>
          rw [hvq] at hc
          obtain rfl : cc = true := by rw [hc]; rfl
          clear hc
          go_enter Tryz.func74, Tryz.ntmps74
          go_wp2_with (first
                | (go_at_call 91; refine (HM.out _).mono ?_; rintro e w1 ⟨rfl, hb1⟩; have HS1 : Hid _ := WrS.below HS.out.1 hb1; have HX1 : Hid (w1.heap[w.heap.size]? = some (.cells #[.bool false, .string k, .bool false, .string v, .int .i64 t, .int .i64 o] 84 (0, 0))) := (hb1.block _ (Array.getElem?_eq_some_iff.1 HX.out).1).trans HX.out; have HK1 : Hid (KeepT w0.heap.size w w1) := HS.out.2.trans (KeepT.of_below hb1); clear hb1)
                | (have _h := HS1; go_at_call 30; refine (HN.out _ HS1.out).mono ?_; rintro e w2 ⟨rfl, hw2, hk2⟩; have HS2 : Hid _ := hw2; have HX2 : Hid (w2.heap[w.heap.size]? = some (.cells #[.bool false, .string k, .bool false, .string v, .int .i64 t, .int .i64 o] 84 (0, 0))) := hk2.box HX1.out HNE.out (by decide); have HK2 : Hid (KeepT w0.heap.size w w2) := HK1.out.trans hk2; obtain ⟨d0, d1, d2, d3, d4, d5, d6⟩ := rc_box (r := ⟨false, k, false, v, t, o⟩) HX2.out; simp only at d0 d1 d2 d3 d4 d5; clear _h hw2 hk2)
                | (have _h := HS2; go_at_call 71; refine (HT.out _ HS2.out).mono ?_; rintro e w5 ⟨rfl, hw5, hk5⟩; clear _h))
          all_goals
            go_end0
            exact ⟨rfl, hw5, HK2.out.trans hk5⟩
        | true =>
          rw [hvq] at hc
          obtain rfl : cc = false := by rw [hc]; rfl
          clear hc
          go_enter Tryz.func74, Tryz.ntmps74
          go_wp2_with (first
                | (go_at_call 91; refine (HM.out _).mono ?_; rintro e w1 ⟨rfl, hb1⟩; have HS1 : Hid _ := WrS.below HS.out.1 hb1; have HX1 : Hid (w1.heap[w.heap.size]? = some (.cells #[.bool false, .string k, .bool false, .string v, .int .i64 t, .int .i64 o] 84 (0, 0))) := (hb1.block _ (Array.getElem?_eq_some_iff.1 HX.out).1).trans HX.out; have HK1 : Hid (KeepT w0.heap.size w w1) := HS.out.2.trans (KeepT.of_below hb1); clear hb1)
                | (have _h := HS1; go_at_call 30; refine (HN.out _ HS1.out).mono ?_; rintro e w2 ⟨rfl, hw2, hk2⟩; have HS2 : Hid _ := hw2; have HX2 : Hid (w2.heap[w.heap.size]? = some (.cells #[.bool false, .string k, .bool false, .string v, .int .i64 t, .int .i64 o] 84 (0, 0))) := hk2.box HX1.out HNE.out (by decide); have HK2 : Hid (KeepT w0.heap.size w w2) := HK1.out.trans hk2; obtain ⟨d0, d1, d2, d3, d4, d5, d6⟩ := rc_box (r := ⟨false, k, false, v, t, o⟩) HX2.out; simp only at d0 d1 d2 d3 d4 d5; clear _h hw2 hk2)
                | (have _h := HS2; go_at_call 71; refine (HT.out _ HS2.out).mono ?_; rintro e w5 ⟨rfl, hw5, hk5⟩; clear _h))
          all_goals
            go_end0
            exact ⟨rfl, hw5, HK2.out.trans hk5⟩
    · have hoE : (o != 0) = true := by rw [hoB, decide_eq_false ho]; rfl
      rw [decide_eq_false ho] at hc
      clear hoB ho
      obtain rfl : cc = true := by rw [hc]; rfl
      clear hc
      go_enter Tryz.func74, Tryz.ntmps74
      go_wp2_with (first
            | (go_at_call 91; refine (HM.out _).mono ?_; rintro e w1 ⟨rfl, hb1⟩; have HS1 : Hid _ := WrS.below HS.out.1 hb1; have HX1 : Hid (w1.heap[w.heap.size]? = some (.cells #[.bool false, .string k, .bool false, .string v, .int .i64 t, .int .i64 o] 84 (0, 0))) := (hb1.block _ (Array.getElem?_eq_some_iff.1 HX.out).1).trans HX.out; have HK1 : Hid (KeepT w0.heap.size w w1) := HS.out.2.trans (KeepT.of_below hb1); clear hb1)
            | (have _h := HS1; go_at_call 30; refine (HN.out _ HS1.out).mono ?_; rintro e w2 ⟨rfl, hw2, hk2⟩; have HS2 : Hid _ := hw2; have HX2 : Hid (w2.heap[w.heap.size]? = some (.cells #[.bool false, .string k, .bool false, .string v, .int .i64 t, .int .i64 o] 84 (0, 0))) := hk2.box HX1.out HNE.out (by decide); have HK2 : Hid (KeepT w0.heap.size w w2) := HK1.out.trans hk2; obtain ⟨d0, d1, d2, d3, d4, d5, d6⟩ := rc_box (r := ⟨false, k, false, v, t, o⟩) HX2.out; simp only at d0 d1 d2 d3 d4 d5; clear _h hw2 hk2)
            | (have _h := HS2; go_at_call 71; refine (HT.out _ HS2.out).mono ?_; rintro e w5 ⟨rfl, hw5, hk5⟩; clear _h))
      all_goals
        go_end0
        exact ⟨rfl, hw5, HK2.out.trans hk5⟩
  · obtain rfl : cc = true := by rw [hc]; rfl
    clear hc hoB
    go_enter Tryz.func74, Tryz.ntmps74
    go_wp2_with (first
          | (go_at_call 91; refine (HM.out _).mono ?_; rintro e w1 ⟨rfl, hb1⟩; have HS1 : Hid _ := WrS.below HS.out.1 hb1; have HX1 : Hid (w1.heap[w.heap.size]? = some (.cells #[.bool false, .string k, .bool false, .string v, .int .i64 t, .int .i64 o] 84 (0, 0))) := (hb1.block _ (Array.getElem?_eq_some_iff.1 HX.out).1).trans HX.out; have HK1 : Hid (KeepT w0.heap.size w w1) := HS.out.2.trans (KeepT.of_below hb1); clear hb1)
          | (have _h := HS1; go_at_call 30; refine (HN.out _ HS1.out).mono ?_; rintro e w2 ⟨rfl, hw2, hk2⟩; have HS2 : Hid _ := hw2; have HX2 : Hid (w2.heap[w.heap.size]? = some (.cells #[.bool false, .string k, .bool false, .string v, .int .i64 t, .int .i64 o] 84 (0, 0))) := hk2.box HX1.out HNE.out (by decide); have HK2 : Hid (KeepT w0.heap.size w w2) := HK1.out.trans hk2; obtain ⟨d0, d1, d2, d3, d4, d5, d6⟩ := rc_box (r := ⟨false, k, false, v, t, o⟩) HX2.out; simp only at d0 d1 d2 d3 d4 d5; clear _h hw2 hk2)
          | (have _h := HS2; go_at_call 71; refine (HT.out _ HS2.out).mono ?_; rintro e w5 ⟨rfl, hw5, hk5⟩; clear _h))
    all_goals
      go_end0
      exact ⟨rfl, hw5, HK2.out.trans hk5⟩
theorem wrec_any (w0 w : World) (st : Ls) (N : Nat) (r : Rc) (hN : N ≤ 600000000000) (ht : In64 r.t) (hk : r.k.size ≤ 9223372036854775807) (hv : r.v.size ≤ 9223372036854775807) (h : WrS w0 w st N) :
    Calls Tryz.prog 74 #[.pointer (some ⟨w0.heap.size, 0, none⟩), .agg r.cells] w (WP w0 w (oa st (eRec r)) (N + 140000)) := by
  have HM : ∀ x, Calls Tryz.prog 91 #[.agg r.cells] x fun e w' => e = .returned (.int .i64 ((headB r.hk r.hv : Nat) : Int)) ∧ Below x.heap.size x w' := fun x => markOf_any r x
  have hM := (head_bits r.hk r.hv).2.2
  have HN : ∀ s0 x, WrS w0 x s0 N → Calls Tryz.prog 30 #[.pointer (some ⟨w0.heap.size, 0, none⟩), .int .i64 1, .int .i64 ((headB r.hk r.hv : Nat) : Int)] x (WP w0 x (oa s0 (some (lay 1 (headB r.hk r.hv)))) (N + 8)) := fun s0 x hx => by
    have := wnat_any w0 x s0 N 1 1 ((headB r.hk r.hv : Nat) : Int) rfl (by omega) ⟨by omega, by omega⟩ (by omega) hx
    rw [eNat_head] at this
    exact this
  have HK : ∀ s0 x M, M ≤ 700000000000 → WrS w0 x s0 M → Calls Tryz.prog 72 #[.pointer (some ⟨w0.heap.size, 0, none⟩), .string r.k] x (WP w0 x (oa s0 (eText r.k)) (M + 65600)) := fun s0 x M hM hx => wtext_any w0 x s0 M r.k hk (by omega) hx
  have HV : ∀ s0 x M, M ≤ 700000000000 → WrS w0 x s0 M → Calls Tryz.prog 72 #[.pointer (some ⟨w0.heap.size, 0, none⟩), .string r.v] x (WP w0 x (oa s0 (eText r.v)) (M + 65600)) := fun s0 x M hM hx => wtext_any w0 x s0 M r.v hv (by omega) hx
  have HT : ∀ s0 x M, M ≤ 700000000000 → WrS w0 x s0 M → Calls Tryz.prog 71 #[.pointer (some ⟨w0.heap.size, 0, none⟩), .int .i64 r.t] x (WP w0 x (oa s0 (some (eInt r.t))) (M + 8)) := fun s0 x M hM hx => wnum_any w0 x s0 M r.t (by omega) hx
  have key : ∀ (s0 : Ls) (cc : Bool), cc = s0.isNone → cc = (st.isNone || !(okR r)) → (∀ L, s0 = some L → st = some L) → oa (oa (oa (oa s0 (some (lay 1 (headB r.hk r.hv)))) (eIf r.hk r.k)) (eIf r.hv r.v)) (some (eInt r.t)) = oa st (eRec r) →
      Calls Tryz.prog 74 #[.pointer (some ⟨w0.heap.size, 0, none⟩), .agg r.cells] w (WP w0 w (oa st (eRec r)) (N + 140000)) := by
    intro s0 cc hcc hc hst he
    rw [← he]
    have fin : ∀ (s : Ls) (M : Nat), M ≤ N + 140000 → ∀ e w', WP w0 w s M e w' → WP w0 w s (N + 140000) e w' := fun s M hM e w' q => ⟨q.1, q.2.1.mono hM, q.2.2⟩
    obtain ⟨rhk, k, rhv, v, t, o⟩ := r
    simp only [Rc.cells] at HM ⊢
    simp only at HN HK HV HT hM
    cases rhk <;> cases rhv
    · simp only [eIf, Bool.false_eq_true, if_false, oa_nil]
      exact (wrec_ff w0 w st s0 _ _ _ _ _ _ _ (N + 16) N _ k v t o st.isNone cc rfl hcc h hc hst 0 HM (HN s0) (HK _ · _ (by omega)) (HV _ · _ (by omega)) (HT _ · _ (by omega))).mono (fin _ _ (by omega))
    · simp only [eIf, Bool.false_eq_true, if_false, if_true, oa_nil]
      exact (wrec_ft w0 w st s0 _ _ _ _ _ _ _ (N + 8 + 65600 + 8) N _ k v t o st.isNone cc rfl hcc h hc hst 0 HM (HN s0) (HK _ · _ (by omega)) (HV _ · _ (by omega)) (HT _ · _ (by omega))).mono (fin _ _ (by omega))
    · simp only [eIf, Bool.false_eq_true, if_false, if_true, oa_nil]
      exact (wrec_tf w0 w st s0 _ _ _ _ _ _ _ (N + 8 + 65600 + 8) N _ k v t o st.isNone cc rfl hcc h hc hst 0 HM (HN s0) (HK _ · _ (by omega)) (HV _ · _ (by omega)) (HT _ · _ (by omega))).mono (fin _ _ (by omega))
    · simp only [eIf, if_true]
      exact (wrec_tt w0 w st s0 _ _ _ _ _ _ _ (N + 8 + 65600 + 65600 + 8) N _ k v t o st.isNone cc rfl hcc h hc hst 0 HM (HN s0) (HK _ · _ (by omega)) (HV _ · _ (by omega)) (HT _ · _ (by omega))).mono (fin _ _ (by omega))
  cases hok : okR r with
  | true => exact key st st.isNone rfl (by simp [hok]) (fun _ e => e) (wrec_st st r hok).symm
  | false => exact key none true rfl (by simp [hok]) (fun _ e => by cases e) (by rw [wrec_no st r hok]; simp only [none_oa])
end Go.Proofs.YtaooidckmepdeaaGreatDoor
namespace Go.Proofs.YtaooidckmepdeaaGreatDoor
set_option linter.unusedSimpArgs false
set_option linter.unusedVariables false
open Go.RowKit
theorem Tryz.info84z : (Tryz.prog.info? 84).map (fun i => (i.zero, i.size)) = some (some (.agg rz.cells), 6) := by kernel_rfl
theorem Tryz.info84b : (Tryz.prog.info? 84).map (fun i => i.bytes) = some 64 := by kernel_rfl
/-- Records as cells. -/
def rcv (rs : List Rc) : List Value := (rs.map fun r => r.cells.toList).flatten
theorem cells_len (r : Rc) : r.cells.toList.length = 6 := rfl
theorem rcv_cons (r : Rc) (rs : List Rc) : rcv (r :: rs) = r.cells.toList ++ rcv rs := rfl
theorem rcv_app (a b : List Rc) : rcv (a ++ b) = rcv a ++ rcv b := by simp [rcv]
theorem rcv_len (rs : List Rc) : (rcv rs).length = rs.length * 6 := by
  induction rs with
  | nil => rfl
  | cons r t ih => rw [rcv_cons, List.length_append, cells_len, ih, List.length_cons]; omega
theorem rcv_get (rs : List Rc) (i j : Nat) (hi : i < rs.length) (hj : j < 6) : (rcv rs)[i * 6 + j]? = (rs.getD i rz).cells[j]? := by
  induction rs generalizing i with
  | nil => simp at hi
  | cons r t ih =>
    rw [rcv_cons]
    cases i with
    | zero =>
      rw [List.getElem?_append_left (by rw [cells_len]; omega)]
      simp
    | succ i =>
      rw [List.getElem?_append_right (by rw [cells_len]; omega), cells_len, show (i + 1) * 6 + j - 6 = i * 6 + j by omega, ih i (by simpa using hi)]
      rfl
theorem rcv_one (rs : List Rc) : ∀ u, u ∈ rcv rs → u.oneCell' = true := by
  intro u hu
  simp only [rcv, List.mem_flatten, List.mem_map] at hu
  obtain ⟨l, ⟨r, _, rfl⟩, hu⟩ := hu
  simp only [Rc.cells, List.mem_cons, List.not_mem_nil, or_false] at hu
  rcases hu with rfl | rfl | rfl | rfl | rfl | rfl <;> rfl
theorem rrow_news {w : World} {ad : Addr} {rs : List Rc} (h : RRow w (some ad) rs) : ∀ j u, (rcv rs)[j]? = some u → w.cell? (ad.add j) = some u := by
  intro j u hj
  have hjl : j < rs.length * 6 := by
    have := (List.getElem?_eq_some_iff.1 hj).1
    rwa [rcv_len] at this
  obtain ⟨b, off, e, z0, z1, z2, z3, z4, z5⟩ := h (j / 6) (by omega)
  injection e with e
  subst e
  have hd : j = j / 6 * 6 + j % 6 := by omega
  have hm : j % 6 < 6 := Nat.mod_lt _ (by decide)
  rw [hd, rcv_get rs (j / 6) (j % 6) (by omega) hm] at hj
  rw [Addr.add_lit, hd, ← Nat.add_assoc]
  generalize j / 6 = i at *
  generalize j % 6 = k at *
  match k, hm with
  | 0, _ => rw [Nat.add_zero, z0]; exact hj
  | 1, _ => rw [z1]; exact hj
  | 2, _ => rw [z2]; exact hj
  | 3, _ => rw [z3]; exact hj
  | 4, _ => rw [z4]; exact hj
  | 5, _ => rw [z5]; exact hj
/-- A row of the call's own can be read. -/
theorem owns_rrow {w : World} {B : Nat} {v : Value} {rs : List Rc} (h : w.ownsRow B 84 6 v rs.length (rcv rs)) : ∃ a c, v = .slice a rs.length c ∧ RRow w a rs ∧ (a = none → c = 0) ∧ rs.length ≤ c ∧ c ≤ maxLen := by
  rcases h.2 with ⟨rfl, h0⟩ | ⟨g, cap, cur, rfl, hB, hg, hle, hm, _, _⟩
  · exact ⟨none, 0, by rw [h0], by rw [List.eq_nil_of_length_eq_zero h0]; exact RRow.nil _ _, fun _ => rfl, by omega, by unfold maxLen; omega⟩
  · refine ⟨_, cap, rfl, ?_, (fun c => by cases c), hle, hm⟩
    intro i hi
    have hc := fun j hj u hu => h.cells (g := g) rfl (i * 6 + j) u ((rcv_get rs i j hi hj).trans hu)
    refine ⟨g, 0, rfl, ?_, ?_, ?_, ?_, ?_, ?_⟩
    · have := hc 0 (by decide) (.bool (rs.getD i rz).hk) rfl
      simpa only [Addr.add_lit, Nat.zero_add, Nat.add_zero] using this
    · have := hc 1 (by decide) (.string (rs.getD i rz).k) rfl
      simpa only [Addr.add_lit, Nat.zero_add, Nat.add_zero] using this
    · have := hc 2 (by decide) (.bool (rs.getD i rz).hv) rfl
      simpa only [Addr.add_lit, Nat.zero_add, Nat.add_zero] using this
    · have := hc 3 (by decide) (.string (rs.getD i rz).v) rfl
      simpa only [Addr.add_lit, Nat.zero_add, Nat.add_zero] using this
    · have := hc 4 (by decide) (.int .i64 (rs.getD i rz).t) rfl
      simpa only [Addr.add_lit, Nat.zero_add, Nat.add_zero] using this
    · have := hc 5 (by decide) (.int .i64 (rs.getD i rz).o) rfl
      simpa only [Addr.add_lit, Nat.zero_add, Nat.add_zero] using this
theorem wp_append_recs {w : World} {o : Oper} {a : Act} {K : Act → World → Prop} {Q : Exit → Act → World → Prop} (s x : Operand)
    (ho : o.op = .call { callee := .builtin .append, args := #[s, x], argTypes := #[26, 26] }) (B : Nat) (w0 : World)
    (v : Value) (n : Nat) (xs : List Value) (hs : a.eval s = v) (hown : w.ownsRow B 84 6 v n xs) (hB : Below B w0 w) (hBs : B ≤ w.heap.size)
    (ad : Addr) (cap : Nat) (rs : List Rc) (hx : a.eval x = .slice (some ad) rs.length cap) (hr : RRow w (some ad) rs) (h63 : n + rs.length ≤ 100000)
    (h : ∀ v' w', w'.ownsRow B 84 6 v' (n + rs.length) (xs ++ rcv rs) → Below B w0 w' → w.grownBy w' v.ownBlock → K (a.put o.dst v') w') : o.wp Tryz.prog a w K Q := by
  have hi0 := Tryz.info84z
  have hb0 := Tryz.info84b
  obtain ⟨i0, hi⟩ : ∃ i0, Tryz.prog.info? 84 = some i0 := by
    cases e : Tryz.prog.info? 84 with
    | none => rw [e] at hi0; cases hi0
    | some i => exact ⟨i, rfl⟩
  rw [hi] at hi0 hb0
  simp only [Option.map_some, Option.some.injEq, Prod.mk.injEq] at hi0 hb0
  refine wp_append_own w s x 26 ho B 84 i0 (.agg rz.cells) 6 64 Tryz.underlying26 hi hi0.1 hi0.2 hb0 rfl (by decide) v n xs hs hown ad rs.length cap (rcv rs) hx (rcv_len rs) (rrow_news hr) (rcv_one _) (by unfold maxLen; omega) (by omega) hBs ?_
  intro v' w' h2 h3 _
  exact h v' w' h2 (hB.grown h3 hBs (fun k hk => (hown.lt k hk).1)) h3
end Go.Proofs.YtaooidckmepdeaaGreatDoor
namespace Go.Proofs.YtaooidckmepdeaaGreatDoor
set_option linter.unusedSimpArgs false
set_option linter.unusedVariables false
open Go.RowKit
def bz : Ba := ⟨0, 0, 0, 0, []⟩
theorem Tryz.info88 : (Tryz.prog.info? 88).map (·.size) = some 5 := by kernel_rfl
theorem bat_one (c0 c1 c2 c3 : Int) (a : Option Addr) (n c : Nat) : (#[.int .i64 c0, .int .i64 c1, .int .i64 c2, .int .i64 c3, .slice a n c] : Array Value).all (·.oneCell') = true := by simp [Value.oneCell']
theorem cell_setRow_ne {w : World} {R b o : Nat} {cs : Array Value} (h : b ≠ R) : (w.setRow R cs).cell? ⟨b, o, none⟩ = w.cell? ⟨b, o, none⟩ := by
  unfold World.cell?
  rw [setRow_other w R b cs h]
theorem RRow.keep {w : World} {g R : Nat} {rs : List Rc} {cs : Array Value} (h : RRow w (some ⟨g, 0, none⟩) rs) (hg : g ≠ R) : RRow (w.setRow R cs) (some ⟨g, 0, none⟩) rs := by
  intro i hi
  obtain ⟨b, off, e, h0, h1, h2, h3, h4, h5⟩ := h i hi
  have hbM : b ≠ R := by
    simp only [Option.some.injEq, Addr.mk.injEq, and_true] at e
    omega
  exact ⟨b, off, e, (cell_setRow_ne hbM).trans h0, (cell_setRow_ne hbM).trans h1, (cell_setRow_ne hbM).trans h2, (cell_setRow_ne hbM).trans h3, (cell_setRow_ne hbM).trans h4, (cell_setRow_ne hbM).trans h5⟩
end Go.Proofs.YtaooidckmepdeaaGreatDoor
namespace Go.Proofs.YtaooidckmepdeaaGreatDoor
set_option linter.unusedSimpArgs false
set_option linter.unusedVariables false
open Go.RowKit Go.ChangeShapes Go.WideShapes Go.ChangeAt
/-- What comes in as a batch. -/
def BaOk (w : World) (b : Ba) (a : Option Addr) (cap : Nat) : Prop := RRow w a b.rs ∧ In64B b ∧ b.rs.length ≤ maxLen ∧ (a = none → cap = 0) ∧ ((Lit.int .i64 b.base).wf = true ∧ (Lit.int .i64 b.span).wf = true)
theorem cells26 : Tryz.prog.cellsOf 26 = 1 := by kernel_rfl
theorem cells88 : Tryz.prog.cellsOf 88 = 5 := by kernel_rfl
theorem list_of {α : Type} (dflt : α) (R : Nat → α → Prop) (L : Nat) (h : ∀ i, i < L → ∃ a, R i a) : ∃ l : List α, l.length = L ∧ ∀ i, i < L → R i (l.getD i dflt) := by
  induction L with
  | zero => exact ⟨[], rfl, fun i hi => by omega⟩
  | succ L ih =>
    obtain ⟨l, hl, hr⟩ := ih (fun i hi => h i (by omega))
    obtain ⟨a, ha⟩ := h L (by omega)
    refine ⟨l ++ [a], by simp [hl], fun i hi => ?_⟩
    by_cases e : i < L
    · have : (l ++ [a]).getD i dflt = l.getD i dflt := by simp [List.getD, List.getElem?_append, show i < l.length by omega]
      rw [this]; exact hr i e
    · obtain rfl : i = L := by omega
      have : (l ++ [a]).getD i dflt = a := by simp [List.getD, ← hl]
      rw [this]; exact ha
set_option maxRecDepth 100000 in
theorem recs_of {H : Type} {enc : TypeId × Value → H} {W : World} {base fuel : Nat} {sp : Nat → Bool} {held : Bool} {a0 : Option Addr} {L cap0 : Nat} {x : DataW H × List MemPlace}
    (h : DataW.trod enc Tryz.prog W base sp held fuel 26 [.slice a0 L cap0] = some x) : ∃ rs : List Rc, L = rs.length ∧ RRow W a0 rs ∧ rs.length ≤ maxLen ∧ (a0 = none → cap0 = 0) := by
  rcases Go.Deep.open_slice Tryz.underlying26 h with ⟨hcs, _⟩ | ⟨ad, len, cap, m, n, D, Pl, hcs, _, hl, hm, hmm, _, hx⟩
  · simp at hcs
    obtain ⟨rfl, rfl, rfl⟩ := hcs
    exact ⟨[], rfl, RRow.nil _ _, by simp, fun _ => rfl⟩
  · simp at hcs
    obtain ⟨rfl, rfl, rfl⟩ := hcs
    have hlm : L ≤ m := by rw [hmm]; split <;> omega
    have each : ∀ i, i < L → ∃ r : Rc, ∃ b off, some ad = some ⟨b, off, none⟩ ∧ W.cell? ⟨b, off + i * 6, none⟩ = some (.bool r.hk) ∧ W.cell? ⟨b, off + i * 6 + 1, none⟩ = some (.string r.k) ∧ W.cell? ⟨b, off + i * 6 + 2, none⟩ = some (.bool r.hv) ∧ W.cell? ⟨b, off + i * 6 + 3, none⟩ = some (.string r.v) ∧ W.cell? ⟨b, off + i * 6 + 4, none⟩ = some (.int .i64 r.t) ∧ W.cell? ⟨b, off + i * 6 + 5, none⟩ = some (.int .i64 r.o) := by
      intro i hi
      have hsp : ad.spot = none := by
        obtain ⟨cs0, h10, _⟩ := hx 0 (by omega)
        rw [cells84] at h10
        obtain ⟨_, hlen0, hcell0⟩ := World.cells?_some h10
        have e := hcell0 0 (by omega)
        rw [List.getElem?_eq_getElem (by omega)] at e
        simpa [Addr.add] using World.cell?_spot e
      obtain ⟨b, off, spot⟩ := ad
      simp only at hsp
      subst hsp
      obtain ⟨cs', h1, h2⟩ := hx i (by omega)
      rw [cells84] at h1
      obtain ⟨_, hlen, hcell⟩ := World.cells?_some h1
      obtain ⟨xs, k, hk, hxy, _, hxl, hf⟩ := DataW.trod_struct Tryz.underlying84 h2
      match xs, hxl, cs', hlen with
      | [y0, y1, y2, y3, y4, y5], _, [v0, v1, v2, v3, v4, v5], _ =>
        have g0 := hf 0 _ rfl
        have g1 := hf 1 _ rfl
        have g2 := hf 2 _ rfl
        have g3 := hf 3 _ rfl
        have g4 := hf 4 _ rfl
        have g5 := hf 5 _ rfl
        simp [cells3, cells4, cells9] at g0 g1 g2 g3 g4 g5
        have e0 := hcell 0 (by omega)
        have e1 := hcell 1 (by omega)
        have e2 := hcell 2 (by omega)
        have e3 := hcell 3 (by omega)
        have e4 := hcell 4 (by omega)
        have e5 := hcell 5 (by omega)
        obtain ⟨n0, q0, _⟩ := DataW.trod_bool Tryz.underlying4 g0
        obtain ⟨n1, q1, _, w1⟩ := DataW.trod_string Tryz.underlying9 g1
        obtain ⟨n2, q2, _⟩ := DataW.trod_bool Tryz.underlying4 g2
        obtain ⟨n3, q3, _, w3⟩ := DataW.trod_string Tryz.underlying9 g3
        obtain ⟨n4, q4, _, w4⟩ := DataW.trod_int Tryz.underlying3 g4
        obtain ⟨n5, q5, _, w5⟩ := DataW.trod_int Tryz.underlying3 g5
        simp at q0 q1 q2 q3 q4 q5
        subst q0; subst q1; subst q2; subst q3; subst q4; subst q5
        rw [Addr.add_lit, Addr.add_lit] at e0 e1 e2 e3 e4 e5
        simp at e0 e1 e2 e3 e4 e5
        exact ⟨⟨n0, n1, n2, n3, n4, n5⟩, b, off, rfl, e0, e1, e2, e3, e4, e5⟩
    obtain ⟨l, hll, hr⟩ := list_of rz _ L each
    exact ⟨l, hll.symm, fun i hi => by rw [hll] at hi; exact hr i hi, by omega, fun c => by cases c⟩
end Go.Proofs.YtaooidckmepdeaaGreatDoor
namespace Go.Proofs.YtaooidckmepdeaaGreatDoor
set_option linter.unusedSimpArgs false
set_option linter.unusedVariables false
open Go.RowKit Go.ChangeShapes Go.WideShapes Go.ChangeAt
/-- A batch, and where its records lie. -/
structure Bs where
  b : Ba
  a : Option Addr
  cap : Nat
def bsz : Bs := ⟨⟨0, 0, 0, 0, []⟩, none, 0⟩
def BCells (w : World) (a : Option Addr) (ss : List Bs) : Prop :=
  ∀ i, i < ss.length → ∃ g off, a = some ⟨g, off, none⟩ ∧ w.cell? ⟨g, off + i * 5, none⟩ = some (.int .i64 (ss.getD i bsz).b.base) ∧ w.cell? ⟨g, off + i * 5 + 1, none⟩ = some (.int .i64 (ss.getD i bsz).b.span) ∧ w.cell? ⟨g, off + i * 5 + 2, none⟩ = some (.int .i64 (ss.getD i bsz).b.prod) ∧ w.cell? ⟨g, off + i * 5 + 3, none⟩ = some (.int .i64 (ss.getD i bsz).b.seq) ∧ w.cell? ⟨g, off + i * 5 + 4, none⟩ = some (.slice (ss.getD i bsz).a (ss.getD i bsz).b.rs.length (ss.getD i bsz).cap)
def AllB (w : World) (ss : List Bs) : Prop := ∀ i, i < ss.length → BaOk w (ss.getD i bsz).b (ss.getD i bsz).a (ss.getD i bsz).cap
def BRow (w : World) (a : Option Addr) (ss : List Bs) : Prop := BCells w a ss ∧ AllB w ss
theorem BCells.below {w w' : World} {a : Option Addr} {ss : List Bs} (h : BCells w a ss) (hb : Below w.heap.size w w') : BCells w' a ss := by
  intro i hi
  obtain ⟨b, off, e, h0, h1, h2, h3, h4⟩ := h i hi
  exact ⟨b, off, e, (hb.cell (World.block_lt_of_cell? _ _ h0)).trans h0, (hb.cell (World.block_lt_of_cell? _ _ h1)).trans h1, (hb.cell (World.block_lt_of_cell? _ _ h2)).trans h2, (hb.cell (World.block_lt_of_cell? _ _ h3)).trans h3, (hb.cell (World.block_lt_of_cell? _ _ h4)).trans h4⟩
theorem BaOk.below {w w' : World} {b : Ba} {a : Option Addr} {cap : Nat} (h : BaOk w b a cap) (hb : Below w.heap.size w w') : BaOk w' b a cap := ⟨h.1.below hb, h.2⟩
theorem AllB.below {w w' : World} {ss : List Bs} (h : AllB w ss) (hb : Below w.heap.size w w') : AllB w' ss := fun i hi => (h i hi).below hb
set_option maxRecDepth 100000 in
theorem bats_of {H : Type} {enc : TypeId × Value → H} {W : World} {base fuel : Nat} {sp : Nat → Bool} {held : Bool} {a0 : Option Addr} {L cap0 : Nat} {x : DataW H × List MemPlace}
    (h : DataW.trod enc Tryz.prog W base sp held fuel 36 [.slice a0 L cap0] = some x) : ∃ ss : List Bs, L = ss.length ∧ BRow W a0 ss ∧ ss.length ≤ maxLen := by
  rcases Go.Deep.open_slice Tryz.underlying36 h with ⟨hcs, _⟩ | ⟨ad, len, cap, m, n, D, Pl, hcs, _, hl, hm, hmm, _, hx⟩
  · simp at hcs
    obtain ⟨rfl, rfl, rfl⟩ := hcs
    exact ⟨[], rfl, ⟨fun i hi => by simp at hi, fun i hi => by simp at hi⟩, by simp⟩
  · simp at hcs
    obtain ⟨rfl, rfl, rfl⟩ := hcs
    have hlm : L ≤ m := by rw [hmm]; split <;> omega
    have each : ∀ i, i < L → ∃ s : Bs, (∃ b off, some ad = some ⟨b, off, none⟩ ∧ W.cell? ⟨b, off + i * 5, none⟩ = some (.int .i64 s.b.base) ∧ W.cell? ⟨b, off + i * 5 + 1, none⟩ = some (.int .i64 s.b.span) ∧ W.cell? ⟨b, off + i * 5 + 2, none⟩ = some (.int .i64 s.b.prod) ∧ W.cell? ⟨b, off + i * 5 + 3, none⟩ = some (.int .i64 s.b.seq) ∧ W.cell? ⟨b, off + i * 5 + 4, none⟩ = some (.slice s.a s.b.rs.length s.cap)) ∧ BaOk W s.b s.a s.cap := by
      intro i hi
      have hsp : ad.spot = none := by
        obtain ⟨cs0, h10, _⟩ := hx 0 (by omega)
        rw [cells88] at h10
        obtain ⟨_, hlen0, hcell0⟩ := World.cells?_some h10
        have e := hcell0 0 (by omega)
        rw [List.getElem?_eq_getElem (by omega)] at e
        simpa [Addr.add] using World.cell?_spot e
      obtain ⟨b, off, spot⟩ := ad
      simp only at hsp
      subst hsp
      obtain ⟨cs', h1, h2⟩ := hx i (by omega)
      rw [cells88] at h1
      obtain ⟨_, hlen, hcell⟩ := World.cells?_some h1
      obtain ⟨xs, k, hk, hxy, _, hxl, hf⟩ := DataW.trod_struct Tryz.underlying88 h2
      match xs, hxl, cs', hlen with
      | [y0, y1, y2, y3, y4], _, [v0, v1, v2, v3, v4], _ =>
        have g0 := hf 0 _ rfl
        have g1 := hf 1 _ rfl
        have g2 := hf 2 _ rfl
        have g3 := hf 3 _ rfl
        have g4 := hf 4 _ rfl
        simp [cells3, cells26] at g0 g1 g2 g3 g4
        have e0 := hcell 0 (by omega)
        have e1 := hcell 1 (by omega)
        have e2 := hcell 2 (by omega)
        have e3 := hcell 3 (by omega)
        have e4 := hcell 4 (by omega)
        obtain ⟨n0, q0, _, w0⟩ := DataW.trod_int Tryz.underlying3 g0
        obtain ⟨n1, q1, _, w1⟩ := DataW.trod_int Tryz.underlying3 g1
        obtain ⟨n2, q2, _, w2⟩ := DataW.trod_int Tryz.underlying3 g2
        obtain ⟨n3, q3, _, w3⟩ := DataW.trod_int Tryz.underlying3 g3
        simp at q0 q1 q2 q3
        subst q0; subst q1; subst q2; subst q3
        obtain ⟨a1, l1, k1, rfl⟩ : ∃ a1 l1 c1, v4 = .slice a1 l1 c1 := by
          rcases Go.Deep.open_slice Tryz.underlying26 g4 with ⟨hcs, _⟩ | ⟨ad, len, cap, m, n, D, Pl, hcs, _⟩
          · simp at hcs; exact ⟨_, _, _, hcs⟩
          · simp at hcs; exact ⟨_, _, _, hcs⟩
        obtain ⟨rs, rfl, hr, hl, hn⟩ := recs_of g4
        rw [Addr.add_lit, Addr.add_lit] at e0 e1 e2 e3 e4
        simp at e0 e1 e2 e3 e4
        exact ⟨⟨⟨n0, n1, n2, n3, rs⟩, a1, k1⟩, ⟨b, off, rfl, e0, e1, e2, e3, e4⟩, hr, ⟨(bd64 w2).2, (bd64 w3).2⟩, hl, hn, w0, w1⟩
    obtain ⟨l, hll, hr⟩ := list_of bsz _ L each
    exact ⟨l, hll.symm, ⟨fun i hi => by rw [hll] at hi; exact (hr i hi).1, fun i hi => by rw [hll] at hi; exact (hr i hi).2⟩, by omega⟩
def Bs.cells (s : Bs) : Array Value := bcells s.b s.a s.cap
/-- Batches as cells. -/
def bcv (ss : List Bs) : List Value := (ss.map fun s => s.cells.toList).flatten
theorem bcells_len (s : Bs) : s.cells.toList.length = 5 := rfl
theorem bcv_cons (s : Bs) (ss : List Bs) : bcv (s :: ss) = s.cells.toList ++ bcv ss := rfl
theorem bcv_app (a b : List Bs) : bcv (a ++ b) = bcv a ++ bcv b := by simp [bcv]
theorem bcv_get (ss : List Bs) (i j : Nat) (hi : i < ss.length) (hj : j < 5) : (bcv ss)[i * 5 + j]? = (ss.getD i bsz).cells[j]? := by
  induction ss generalizing i with
  | nil => simp at hi
  | cons r t ih =>
    rw [bcv_cons]
    cases i with
    | zero =>
      rw [List.getElem?_append_left (by rw [bcells_len]; omega)]
      simp
    | succ i =>
      rw [List.getElem?_append_right (by rw [bcells_len]; omega), bcells_len, show (i + 1) * 5 + j - 5 = i * 5 + j by omega, ih i (by simpa using hi)]
      rfl
/-- A row of the call's own can be read. -/
theorem owns_brow {w : World} {B : Nat} {v : Value} {ss : List Bs} (h : w.ownsRow B 88 5 v ss.length (bcv ss)) : ∃ a c, v = .slice a ss.length c ∧ BCells w a ss := by
  rcases h.2 with ⟨rfl, h0⟩ | ⟨g, cap, cur, rfl, hB, hg, hle, hm, _, _⟩
  · exact ⟨none, 0, by rw [h0], fun i hi => by omega⟩
  · refine ⟨_, cap, rfl, ?_⟩
    intro i hi
    have hc := fun j hj u hu => h.cells (g := g) rfl (i * 5 + j) u ((bcv_get ss i j hi hj).trans hu)
    refine ⟨g, 0, rfl, ?_, ?_, ?_, ?_, ?_⟩
    · have := hc 0 (by decide) (.int .i64 (ss.getD i bsz).b.base) rfl
      simpa only [Addr.add_lit, Nat.zero_add, Nat.add_zero] using this
    · have := hc 1 (by decide) (.int .i64 (ss.getD i bsz).b.span) rfl
      simpa only [Addr.add_lit, Nat.zero_add, Nat.add_zero] using this
    · have := hc 2 (by decide) (.int .i64 (ss.getD i bsz).b.prod) rfl
      simpa only [Addr.add_lit, Nat.zero_add, Nat.add_zero] using this
    · have := hc 3 (by decide) (.int .i64 (ss.getD i bsz).b.seq) rfl
      simpa only [Addr.add_lit, Nat.zero_add, Nat.add_zero] using this
    · have := hc 4 (by decide) (.slice (ss.getD i bsz).a (ss.getD i bsz).b.rs.length (ss.getD i bsz).cap) rfl
      simpa only [Addr.add_lit, Nat.zero_add, Nat.add_zero] using this
end Go.Proofs.YtaooidckmepdeaaGreatDoor
namespace Go.Proofs.YtaooidckmepdeaaGreatDoor
set_option linter.unusedSimpArgs false
set_option linter.unusedVariables false
open Go.RowKit
/-- Rows of texts, and of numbers. -/
def SRow (w : World) (a : Option Addr) (ss : List ByteArray) : Prop := ∀ i, i < ss.length → ∃ b off, a = some ⟨b, off, none⟩ ∧ w.cell? ⟨b, off + i, none⟩ = some (.string (ss.getD i ⟨#[]⟩))
def IRow (w : World) (a : Option Addr) (ns : List Int) : Prop := ∀ i, i < ns.length → ∃ b off, a = some ⟨b, off, none⟩ ∧ w.cell? ⟨b, off + i, none⟩ = some (.int .i64 (ns.getD i 0))
theorem SRow.below {w w' : World} {a : Option Addr} {ss : List ByteArray} (h : SRow w a ss) (hb : Below w.heap.size w w') : SRow w' a ss := by
  intro i hi
  obtain ⟨b, off, e, h0⟩ := h i hi
  exact ⟨b, off, e, (hb.cell (World.block_lt_of_cell? _ _ h0)).trans h0⟩
theorem IRow.below {w w' : World} {a : Option Addr} {ns : List Int} (h : IRow w a ns) (hb : Below w.heap.size w w') : IRow w' a ns := by
  intro i hi
  obtain ⟨b, off, e, h0⟩ := h i hi
  exact ⟨b, off, e, (hb.cell (World.block_lt_of_cell? _ _ h0)).trans h0⟩
theorem eRow_eq {α : Type} (en : α → Ls) (l : List α) : eRow en l = oa (eNat 2 (l.length : Int)) (eL en l) := by
  unfold eRow eNat
  by_cases h : l.length ≤ 65535
  · rw [if_pos h, if_pos ⟨by omega, by omega⟩, Int.toNat_natCast]
  · rw [if_neg h, if_neg (by omega), none_oa]
/-- What stands behind k of a row. -/
def stL {α : Type} (en : α → Ls) (st : Ls) (l : List α) (k : Nat) : Ls := oa (oa st (eNat 2 (l.length : Int))) (eL en (l.take k))
theorem stL_zero {α : Type} (en : α → Ls) (st : Ls) (l : List α) : stL en st l 0 = oa st (eNat 2 (l.length : Int)) := by unfold stL; simp [eL, oa_nil]
theorem stL_all {α : Type} (en : α → Ls) (st : Ls) (l : List α) : stL en st l l.length = oa st (eRow en l) := by unfold stL; rw [List.take_length, eRow_eq, oa_assoc]
theorem stL_step {α : Type} (en : α → Ls) (st : Ls) (l : List α) (k : Nat) (h : k < l.length) (d : α) : stL en st l (k + 1) = oa (stL en st l k) (en (l.getD k d)) := by
  unfold stL
  rw [List.take_succ_eq_append_getElem h, eL_app, ← oa_assoc]
  congr 1
  simp only [eL, oa_nil]
  simp [List.getD, h]
theorem stL_none {α : Type} (en : α → Ls) (st : Ls) (l : List α) (k : Nat) (h : stL en st l k = none) : oa st (eRow en l) = none := by
  rw [eRow_eq, ← oa_assoc]
  conv => lhs; rw [← List.take_append_drop k l]
  rw [eL_app, ← oa_assoc]
  have h2 : oa (oa st (eNat 2 ((List.take k l ++ List.drop k l).length : Int))) (eL en (List.take k l)) = none := by
    rw [List.take_append_drop]; exact h
  rw [h2, none_oa]
theorem row_off {w : World} {B off : Nat} {v : Value} {a : Option Addr} {l : List Nat} (h : Row w a l) (hne : ∀ y, a = some y → 0 < l.length → y.block ≠ B) : Row (w.setCell ⟨B, off, none⟩ v) a l := by
  intro i hi
  obtain ⟨b, o, e, hc, hl⟩ := h i hi
  refine ⟨b, o, e, ?_, hl⟩
  have := heap_setCell_other w ⟨B, off, none⟩ b v (hne _ e (by omega))
  rw [World.cell?_of_block (a := ⟨b, o + i, none⟩) this]
  exact hc
theorem own_blk {w : World} {M : Nat} {a : Option Addr} {c : Nat} {l : List Nat} {xs : List Value} (h : w.ownsRow M 5 1 (.slice a l.length c) l.length xs) {y : Addr} (hy : a = some y) : M ≤ y.block := by
  subst hy
  rcases h.2 with ⟨e, _⟩ | ⟨g, cap, cur, e, hM, _⟩
  · cases e
  · injection e with e1 e2 e3
    injection e1 with e1
    subst e1
    exact hM
theorem bad_parts {w : World} {M B n : Nat} {v : Value} {b b' : Bool} {xs : List Value} (hx : w.heap[B]? = some (.cells #[v, .bool b] 90 (0, 0))) (ho : w.ownsRow M 5 1 v n xs) :
    (w.setCell ⟨B, 1, none⟩ (.bool b')).heap[B]? = some (.cells #[v, .bool b'] 90 (0, 0)) ∧ (w.setCell ⟨B, 1, none⟩ (.bool b')).ownsRow M 5 1 v n xs := by
  refine ⟨?_, own_setCell ho (own_box ho hx (by decide))⟩
  rw [setCell_heap hx]
  rfl
theorem encBR_le (b : Ba) : (encBR b).length ≤ 6000 ∧ Byt (encBR b) := by
  unfold encBR
  split
  · rename_i h
    obtain ⟨h1, h2⟩ := chk_parts h
    exact ⟨by rw [encB_len]; exact h2, encB_mem h1⟩
  · exact ⟨by simp, fun c hc => by cases hc⟩
set_option maxHeartbeats 400000 in
set_option maxRecDepth 100000 in
theorem wbat_in (w0 w : World) (st s0 : Ls) (N : Nat) (m : List Nat) (ba sp pr sq : Int) (a : Option Addr) (n cap : Nat) (C : Int) (bad cc : Bool) (hbad : bad = st.isNone) (hcc : cc = s0.isNone) (hc : cc = (bad || (C != 0))) (hst : ∀ L, s0 = some L → st = some L) (h : WrS w0 w st N) (hm : m.length ≤ 6000) (hN : N ≤ 900000000000) (HB : Hid (Byt m))
    (HE : Hid (Calls Tryz.prog 92 #[.agg #[.int .i64 ba, .int .i64 sp, .int .i64 pr, .int .i64 sq, .slice a n cap]] (w.alloc (.cells #[.int .i64 ba, .int .i64 sp, .int .i64 pr, .int .i64 sq, .slice a n cap] 88)) fun e w' => ∃ v, e = .returned (.tuple #[v, .int .i64 C]) ∧ w'.ownsRow (w.alloc (.cells #[.int .i64 ba, .int .i64 sp, .int .i64 pr, .int .i64 sq, .slice a n cap] 88)).heap.size 5 1 v m.length (cv m) ∧ Below (w.alloc (.cells #[.int .i64 ba, .int .i64 sp, .int .i64 pr, .int .i64 sq, .slice a n cap] 88)).heap.size (w.alloc (.cells #[.int .i64 ba, .int .i64 sp, .int .i64 pr, .int .i64 sq, .slice a n cap] 88)) w')) :
    Calls Tryz.prog 78 #[.pointer (some ⟨w0.heap.size, 0, none⟩), .agg #[.int .i64 ba, .int .i64 sp, .int .i64 pr, .int .i64 sq, .slice a n cap]] w (WP w0 w (oa s0 (some m)) (N + 6000)) := by
  have HW : Hid (WrS w0 (w.alloc (.cells #[.int .i64 ba, .int .i64 sp, .int .i64 pr, .int .i64 sq, .slice a n cap] 88)) st N) := h.below (below_box _)
  have HK0 : Hid (KeepT w0.heap.size w (w.alloc (.cells #[.int .i64 ba, .int .i64 sp, .int .i64 pr, .int .i64 sq, .slice a n cap] 88))) := KeepT.of_below (below_box _)
  have HWZ : Hid (w0.heap.size < w.heap.size) := by obtain ⟨_, _, _, _, _, _, _, q⟩ := h.open; exact q
  clear h
  have HC : Hid (cc = s0.isNone ∧ ∀ L, s0 = some L → st = some L) := ⟨hcc, hst⟩
  have HBD : Hid (bad = st.isNone) := hbad
  clear hcc hst hbad
  cases bad
  · by_cases hC : C = 0
    · subst hC
      obtain rfl : cc = false := by rw [hc]; rfl
      clear hc
      go_enter Tryz.func78, Tryz.ntmps78
      go_wp2_with (first
        | (go_at_call 92; refine Calls.mono HE.out ?_; rintro e w1 ⟨v, rfl, hown1, hb1⟩; have HS1 : Hid (WrS w0 w1 st N) := WrS.below HW.out hb1; have HK1 : Hid (KeepT w0.heap.size w w1) := HK0.out.trans (KeepT.of_below hb1); obtain ⟨a1, k1, rfl, hr1, hn1⟩ := owns_sl hown1 (Byt.getD HB.out); have HR1 : Hid (Row w1 a1 m) := hr1; have HS2 : Hid _ := WrS.setBad HS1.out s0 false HC.out.1 HC.out.2; have HR2 : Hid (Row (w1.setCell ⟨w0.heap.size, 1, none⟩ (.bool false)) a1 m) := row_off HR1.out (fun y hy _ => by have q := own_blk hown1 hy; simp at q; have q2 := HW.out.open; obtain ⟨_, _, _, _, _, _, _, q3⟩ := q2; simp at q3; have q4 := HK0.out.size; have q5 := HWZ.out; omega); obtain ⟨⟨v2, l2, hx2, ho2, hbt2, hl2, hs2⟩, bel2⟩ := HS1.out; rw [← HBD.out] at hx2; have HX2 : Hid ((w1.setCell ⟨w0.heap.size, 1, none⟩ (.bool false)).heap[w0.heap.size]? = some (.cells #[v2, .bool s0.isNone] 90 (0, 0))) := (by rw [← HC.out.1]; exact (bad_parts hx2 ho2).1); have HO2 : Hid ((w1.setCell ⟨w0.heap.size, 1, none⟩ (.bool false)).ownsRow w0.heap.size 5 1 v2 l2.length (cv l2)) := (bad_parts hx2 ho2).2; have HS3 : Hid (∀ L, s0 = some L → l2 = L) := fun L e => hs2 L (HC.out.2 L e); have HBL2 : Hid (Below w0.heap.size w0 (w1.setCell ⟨w0.heap.size, 1, none⟩ (.bool false))) := HS2.out.1.bel; obtain ⟨a3, c3, rfl⟩ := own_slice ho2; have e0 := (box_at hx2 0).1; have e1 := (box_at hx2 1).1; simp only [List.getElem?_toArray, List.getElem?_cons_zero, List.getElem?_cons_succ] at e0 e1; have g0 := (box_at hx2 0).2; have g1 := (box_at hx2 1).2; clear hr1 hown1 hb1 ho2 hx2 hs2 bel2)
        | (at_builtin; refine wpList_append_rw (by rfl) _ _ rfl w0.heap.size _ l2 rfl HO2.out (HBL2.out.size) a1 _ _ m rfl rfl HR2.out hn1 (by omega) ?_; intro v' w2 ho2 hg2; obtain ⟨a4, c4, rfl⟩ := own_slice ho2; have HF : Hid _ := WrS.app (M := N + 6000) HX2.out HO2.out hbt2 hl2 HS3.out HBL2.out ho2 hg2 HB.out (by omega); have hq2 : Hid _ := (hg2.block w0.heap.size (Array.getElem?_eq_some_iff.1 HX2.out).1 (fun e => own_box HO2.out HX2.out (by decide) _ e.symm rfl)).trans HX2.out; have f2 := (box_at hq2.out 0).2; have d2 := (box_at hq2.out 0).1; simp only [List.getElem?_toArray, List.getElem?_cons_zero] at d2; clear ho2 hg2))
      go_end0
      have q := HF.out
      rw [List.length_append] at q
      exact ⟨rfl, q.1, HK1.out.trans (HS2.out.2.trans q.2)⟩
    · have hC2 : (C != 0) = true := by simpa using hC
      rw [hC2] at hc
      obtain rfl : cc = true := by rw [hc]; rfl
      clear hc
      go_enter Tryz.func78, Tryz.ntmps78
      go_wp2_with (first
        | (go_at_call 92; refine Calls.mono HE.out ?_; rintro e w1 ⟨v, rfl, hown1, hb1⟩; have HS1 : Hid (WrS w0 w1 st N) := WrS.below HW.out hb1; have HK1 : Hid (KeepT w0.heap.size w w1) := HK0.out.trans (KeepT.of_below hb1); obtain ⟨a1, k1, rfl, hr1, hn1⟩ := owns_sl hown1 (Byt.getD HB.out); have HR1 : Hid (Row w1 a1 m) := hr1; have HS2 : Hid _ := WrS.setBad HS1.out s0 true HC.out.1 HC.out.2; have HR2 : Hid (Row (w1.setCell ⟨w0.heap.size, 1, none⟩ (.bool true)) a1 m) := row_off HR1.out (fun y hy _ => by have q := own_blk hown1 hy; simp at q; have q2 := HW.out.open; obtain ⟨_, _, _, _, _, _, _, q3⟩ := q2; simp at q3; have q4 := HK0.out.size; have q5 := HWZ.out; omega); obtain ⟨⟨v2, l2, hx2, ho2, hbt2, hl2, hs2⟩, bel2⟩ := HS1.out; rw [← HBD.out] at hx2; have HX2 : Hid ((w1.setCell ⟨w0.heap.size, 1, none⟩ (.bool true)).heap[w0.heap.size]? = some (.cells #[v2, .bool s0.isNone] 90 (0, 0))) := (by rw [← HC.out.1]; exact (bad_parts hx2 ho2).1); have HO2 : Hid ((w1.setCell ⟨w0.heap.size, 1, none⟩ (.bool true)).ownsRow w0.heap.size 5 1 v2 l2.length (cv l2)) := (bad_parts hx2 ho2).2; have HS3 : Hid (∀ L, s0 = some L → l2 = L) := fun L e => hs2 L (HC.out.2 L e); have HBL2 : Hid (Below w0.heap.size w0 (w1.setCell ⟨w0.heap.size, 1, none⟩ (.bool true))) := HS2.out.1.bel; obtain ⟨a3, c3, rfl⟩ := own_slice ho2; have e0 := (box_at hx2 0).1; have e1 := (box_at hx2 1).1; simp only [List.getElem?_toArray, List.getElem?_cons_zero, List.getElem?_cons_succ] at e0 e1; have g0 := (box_at hx2 0).2; have g1 := (box_at hx2 1).2; clear hr1 hown1 hb1 ho2 hx2 hs2 bel2)
        | (at_builtin; refine wpList_append_rw (by rfl) _ _ rfl w0.heap.size _ l2 rfl HO2.out (HBL2.out.size) a1 _ _ m rfl rfl HR2.out hn1 (by omega) ?_; intro v' w2 ho2 hg2; obtain ⟨a4, c4, rfl⟩ := own_slice ho2; have HF : Hid _ := WrS.app (M := N + 6000) HX2.out HO2.out hbt2 hl2 HS3.out HBL2.out ho2 hg2 HB.out (by omega); have hq2 : Hid _ := (hg2.block w0.heap.size (Array.getElem?_eq_some_iff.1 HX2.out).1 (fun e => own_box HO2.out HX2.out (by decide) _ e.symm rfl)).trans HX2.out; have f2 := (box_at hq2.out 0).2; have d2 := (box_at hq2.out 0).1; simp only [List.getElem?_toArray, List.getElem?_cons_zero] at d2; clear ho2 hg2))
      go_end0
      have q := HF.out
      rw [List.length_append] at q
      exact ⟨rfl, q.1, HK1.out.trans (HS2.out.2.trans q.2)⟩
  · obtain rfl : cc = true := by rw [hc]; rfl
    clear hc
    go_enter Tryz.func78, Tryz.ntmps78
    go_wp2_with (first
      | (go_at_call 92; refine Calls.mono HE.out ?_; rintro e w1 ⟨v, rfl, hown1, hb1⟩; have HS1 : Hid (WrS w0 w1 st N) := WrS.below HW.out hb1; have HK1 : Hid (KeepT w0.heap.size w w1) := HK0.out.trans (KeepT.of_below hb1); obtain ⟨a1, k1, rfl, hr1, hn1⟩ := owns_sl hown1 (Byt.getD HB.out); have HR1 : Hid (Row w1 a1 m) := hr1; have HS2 : Hid _ := WrS.setBad HS1.out s0 true HC.out.1 HC.out.2; have HR2 : Hid (Row (w1.setCell ⟨w0.heap.size, 1, none⟩ (.bool true)) a1 m) := row_off HR1.out (fun y hy _ => by have q := own_blk hown1 hy; simp at q; have q2 := HW.out.open; obtain ⟨_, _, _, _, _, _, _, q3⟩ := q2; simp at q3; have q4 := HK0.out.size; have q5 := HWZ.out; omega); obtain ⟨⟨v2, l2, hx2, ho2, hbt2, hl2, hs2⟩, bel2⟩ := HS1.out; rw [← HBD.out] at hx2; have HX2 : Hid ((w1.setCell ⟨w0.heap.size, 1, none⟩ (.bool true)).heap[w0.heap.size]? = some (.cells #[v2, .bool s0.isNone] 90 (0, 0))) := (by rw [← HC.out.1]; exact (bad_parts hx2 ho2).1); have HO2 : Hid ((w1.setCell ⟨w0.heap.size, 1, none⟩ (.bool true)).ownsRow w0.heap.size 5 1 v2 l2.length (cv l2)) := (bad_parts hx2 ho2).2; have HS3 : Hid (∀ L, s0 = some L → l2 = L) := fun L e => hs2 L (HC.out.2 L e); have HBL2 : Hid (Below w0.heap.size w0 (w1.setCell ⟨w0.heap.size, 1, none⟩ (.bool true))) := HS2.out.1.bel; obtain ⟨a3, c3, rfl⟩ := own_slice ho2; have e0 := (box_at hx2 0).1; have e1 := (box_at hx2 1).1; simp only [List.getElem?_toArray, List.getElem?_cons_zero, List.getElem?_cons_succ] at e0 e1; have g0 := (box_at hx2 0).2; have g1 := (box_at hx2 1).2; clear hr1 hown1 hb1 ho2 hx2 hs2 bel2)
      | (at_builtin; refine wpList_append_rw (by rfl) _ _ rfl w0.heap.size _ l2 rfl HO2.out (HBL2.out.size) a1 _ _ m rfl rfl HR2.out hn1 (by omega) ?_; intro v' w2 ho2 hg2; obtain ⟨a4, c4, rfl⟩ := own_slice ho2; have HF : Hid _ := WrS.app (M := N + 6000) HX2.out HO2.out hbt2 hl2 HS3.out HBL2.out ho2 hg2 HB.out (by omega); have hq2 : Hid _ := (hg2.block w0.heap.size (Array.getElem?_eq_some_iff.1 HX2.out).1 (fun e => own_box HO2.out HX2.out (by decide) _ e.symm rfl)).trans HX2.out; have f2 := (box_at hq2.out 0).2; have d2 := (box_at hq2.out 0).1; simp only [List.getElem?_toArray, List.getElem?_cons_zero] at d2; clear ho2 hg2))
    go_end0
    have q := HF.out
    rw [List.length_append] at q
    exact ⟨rfl, q.1, HK1.out.trans (HS2.out.2.trans q.2)⟩
theorem wbat_any (w0 w : World) (st : Ls) (N : Nat) (b : Ba) (a : Option Addr) (cap : Nat) (hN : N ≤ 900000000000) (hok : BaOk w b a cap) (ht : Tab w) (h : WrS w0 w st N) :
    Calls Tryz.prog 78 #[.pointer (some ⟨w0.heap.size, 0, none⟩), bav b a cap] w (WP w0 w (oa st (eBat b)) (N + 6000)) := by
  obtain ⟨hr, hi, hl, hn, _⟩ := hok
  have HE := bencode_any b a cap hi hl (w.alloc (.cells (bcells b a cap) 88)) (ht.below (below_box _)) (hr.below (below_box _))
  obtain ⟨h6, hb⟩ := encBR_le b
  cases hc : decide (chkB b = 0) with
  | true =>
    simp only [decide_eq_true_eq] at hc
    have e1 : oa st (eBat b) = oa st (some (encBR b)) := by unfold eBat encBR; rw [if_pos hc, if_pos hc]
    rw [e1]
    exact wbat_in w0 w st st N (encBR b) b.base b.span b.prod b.seq a b.rs.length cap (chkB b) st.isNone st.isNone rfl rfl (by rw [hc]; simp) (fun _ e => e) h h6 hN hb HE
  | false =>
    simp only [decide_eq_false_iff_not] at hc
    have e1 : oa st (eBat b) = oa none (some (encBR b)) := by unfold eBat; rw [if_neg hc, oa_none, none_oa]
    rw [e1]
    exact wbat_in w0 w st none N (encBR b) b.base b.span b.prod b.seq a b.rs.length cap (chkB b) st.isNone true rfl rfl (by simp [hc]) (fun _ e => by cases e) h h6 hN hb HE
end Go.Proofs.YtaooidckmepdeaaGreatDoor
