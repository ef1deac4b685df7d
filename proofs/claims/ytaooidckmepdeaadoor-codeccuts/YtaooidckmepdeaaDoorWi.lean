/- A head's bytes as an array: with, number, join. -/
import Derived.Test.YtaooidckmepdeaaDoorBt
import Derived.Test.YtaooidckmepdeaaDoorRr
import Derived.Test.YtaooidckmepdeaaDoorJn
import Derived.Test.YtaooidckmepdeaaDoorDs
import Derived.Laws.Rows
import Derived.Laws.Tables
import Derived.Laws.ResultCell
namespace Go.Proofs.YtaooidckmepdeaaDoor
set_option linter.unusedSimpArgs false
set_option linter.unusedVariables false
open Go.RowKit
/-- An array of bytes by value. -/
def av (h : List Nat) : Value := .agg (cv h).toArray
theorem number_in (h : List Nat) (at' size : Nat) (w : World) (hl : h.length = 48) (hb : ∀ i, h.getD i 0 < 256) (h1 : 1 ≤ size) (h2 : size ≤ 8) (h3 : at' + size ≤ 48) :
    Calls Tryd.prog 98 #[av h, .int .i64 at', .int .i64 size] w fun e w' => e = .returned (.int .i64 (wrap64 (getV h at' size true))) ∧ Below w.heap.size w w' := by
  have HG : Hid (∀ w', Row w' (some ⟨w.heap.size, 0, none⟩) h → Calls Tryd.prog 67 #[.slice (some ⟨w.heap.size, 0, none⟩) 48 48, .int .i64 at', .int .i64 size, .bool true] w' fun e w2 => e = .returned (.tuple #[.int .u64 (getV h at' size true : Nat), .bool true]) ∧ w2 = w') := by
    intro w' hr
    have := get_yes (some ⟨w.heap.size, 0, none⟩) 48 h at' size true w' hr (by rw [hl]; unfold maxLen; omega) h1 h2 (by omega)
    rw [hl] at this
    exact this
  have HR : Hid (Row (w.alloc (.cells (cv h).toArray 155)) (some ⟨w.heap.size, 0, none⟩) h) := by
    intro i hi
    refine ⟨w.heap.size, 0, rfl, ?_, hb i⟩
    rw [cell_of_row _ w.heap.size (0 + i) (cv h).toArray 155 (0, 0) (heap_alloc_new w _)]
    simpa using cv_get h i hi
  generalize getV h at' size true = V at *
  simp only [av]
  generalize (cv h).toArray = cs at *
  go_enter Tryd.func98, Tryd.ntmps98
  go_wp2_with (go_at_call 67; refine (HG.out _ HR.out).mono ?_; rintro e w1 ⟨rfl, hw⟩; subst w1)
  go_ret
  exact ⟨rfl, below_box _⟩
theorem row_arr (w : World) (h : List Nat) (hb : ∀ i, h.getD i 0 < 256) : Row (w.alloc (.cells (cv h).toArray 155)) (some ⟨w.heap.size, 0, none⟩) h := by
  intro i hi
  refine ⟨w.heap.size, 0, rfl, ?_, hb i⟩
  rw [cell_of_row _ w.heap.size (0 + i) (cv h).toArray 155 (0, 0) (heap_alloc_new w _)]
  simpa using cv_get h i hi
theorem two_bel {w w1 : World} {o o2 : Obj} (h : Below ((w.alloc o).alloc o2).heap.size ((w.alloc o).alloc o2) w1) : Below w.heap.size w w1 :=
  (((Below.refl _ _).alloc (Nat.le_refl _) o).alloc (by simp) o2).trans (h.mono (by simp; omega))
theorem two_new {w w1 : World} {o : Obj} {cs : Array Value} {t : TypeId} (h : Below ((w.alloc o).alloc (.cells cs t)).heap.size ((w.alloc o).alloc (.cells cs t)) w1) : w1.heap[w.heap.size + 1]? = some (.cells cs t (0, 0)) := by
  rw [h.block (w.heap.size + 1) (by simp)]
  have := heap_alloc_new (w.alloc o) (.cells cs t)
  simpa using this
theorem Tryd.info5s' : (Tryd.prog.info? 5).map (·.size) = some 1 := by kernel_rfl
theorem Tryd.info155 : (Tryd.prog.info? 155).map (·.size) = some 48 := by kernel_rfl
theorem arr_size {m : List Nat} (h : (cv m).length = 48) : (cv m).toArray.size = 48 := by simpa using h
theorem arr_one (m : List Nat) : (cv m).toArray.all (·.oneCell') = true := by
  rw [Array.all_eq_true']
  intro x hx
  exact cv_one m x (by simpa using hx)
theorem spliced {w : World} {g : Nat} {t : TypeId} {cur cs : List Value} (h : Hid (w.heap[g]? = some (.cells (splice cur 0 cs).toArray t (0, 0)))) (hl : cs.length = cur.length) : w.heap[g]? = some (.cells cs.toArray t (0, 0)) := by
  have := h.out
  rwa [splice_all _ _ hl.symm] at this
theorem results_one {fn : Func} {p : Tmp} {ty : TypeId} (h : fn.results = #[.cell p ty]) (tmps : Array Value) (P : Program) (w : World) :
    (results fn tmps).run P w = ((asAddr (tmps.getD p undef)).run P w).andThen fun a w₁ => (loadVar ty a).run P w₁ := by
  simp only [results, h]
  simp [Sem.run_bind, Result.andThen]
theorem results_arr {fn : Func} {p : Tmp} (h : fn.results = #[.cell p 155]) (tmps : Array Value) (w : World) (g : Nat) (cs : Array Value) (hp : tmps.getD p undef = .pointer (some ⟨g, 0, none⟩)) (hi : (Tryd.prog.info? 155).map (·.size) = some cs.size) (hg : w.heap[g]? = some (.cells cs 155 (0, 0))) :
    (results fn tmps).run Tryd.prog w = .ok (.agg cs) w := by
  have h2 := run_loadVar_row (P := Tryd.prog) w g 155 155 cs (0, 0) _ hg Tryd.underlying155 rfl hi
  rw [results_one h, hp]
  simp [asAddr, h2, Result.andThen]
set_option maxRecDepth 100000 in
theorem with_in (h : List Nat) (at' size V : Nat) (w : World) (hl : h.length = 48) (hb : ∀ i, h.getD i 0 < 256) (h1 : 1 ≤ size) (h2 : size ≤ 8) (h3 : at' + size ≤ 48) (hV : V ≤ 9223372036854775807) :
    Calls Tryd.prog 90 #[av h, .int .i64 at', .int .i64 size, .int .i64 V] w fun e w' => e = .returned (av (putL h at' size true V)) ∧ Below w.heap.size w w' := by
  have HG : Hid (∀ w', Row w' (some ⟨w.heap.size, 0, none⟩) h → Calls Tryd.prog 52 #[.slice (some ⟨w.heap.size, 0, none⟩) 48 48, .int .i64 at', .int .i64 size, .bool true, .int .u64 V] w' fun e w2 =>
      (∃ g, e = .returned (.tuple #[.slice (some ⟨g, 0, none⟩) 48 48, .bool true]) ∧ Own w'.heap.size w2 g 48 (putL h at' size true V)) ∧ Below w'.heap.size w' w2) := by
    intro w' hr
    have := put_yes (some ⟨w.heap.size, 0, none⟩) 48 h at' size true V w' hr (by rw [hl]; omega) h1 h2 (by omega) (by omega)
    rw [hl] at this
    exact this
  have HR : Hid _ := row_arr w h hb
  have hwv : IntKind.u64.wrap (V : Int) = (V : Int) := by rw [IntKind.wrap_u64]; omega
  have HML : Hid ((cv (putL h at' size true V)).length = 48) := by show _ = _; rw [cv_length, putL_length, hl]
  have HMB : Hid (∀ i, (putL h at' size true V).getD i 0 < 256) := putL_lt h at' size true V hb
  generalize putL h at' size true V = m at *
  simp only [av]
  generalize (cv h).toArray = cs at *
  go_enter Tryd.func90, Tryd.ntmps90
  go_wp2_with (first
    | (go_at_call 52; refine (HG.out _ (Row.below HR.out (below_box _))).mono ?_; rintro e w1 ⟨⟨g, rfl, hown⟩, hb1⟩; have HB1 : Hid (Below w.heap.size w w1) := two_bel hb1; have hcur := two_new hb1; have hrow := hown.row HMB.out; clear hb1 HG HR)
    | (have _t := hcur; refine wpList_copy_splice rfl (.tmp 20) (.tmp 21) 29 29 rfl 5 Tryd.underlying29 Tryd.info5s' _ _ _ _ _ _ rfl rfl (w.heap.size + 1) 0 (List.replicate 48 (.int .u8 0)) 155 hcur (cv m) (by rw [HML.out]; rfl) (fun h0 => ⟨rfl, row_src hrow h0⟩) (by rw [HML.out]; simp) (cv_one _) w.heap.size w HB1.out (by omega) ?_; clear hcur _t hrow hown; intro w2 HG2 hB2; have HF : Hid _ := spliced HG2 (by rw [HML.out]; simp); clear HG2)
    | (have _t := HF; refine wpList_load_row rfl 155 _ rfl (w.heap.size + 1) rfl 155 (cv m).toArray (0, 0) _ HF.out Tryd.underlying155 rfl (by rw [arr_size HML.out]; exact Tryd.info155) ?_)
    | (have _t := HF; refine wpList_store_row rfl 155 _ _ rfl (w.heap.size + 1) (cv m).toArray rfl rfl 155 (cv m).toArray HF.out (by rw [arr_size HML.out]; exact Tryd.info155) rfl (arr_one m) ?_))
  refine bodyPost_ret (v := .agg (cv m).toArray) ?_ rfl ⟨rfl, ?_⟩
  · exact results_arr (p := 8) (by rfl) _ _ (w.heap.size + 1) _ (by rfl) (by rw [arr_size HML.out]; exact Tryd.info155) (setRow_heap _ _ _ _ _ _ HF.out)
  · exact below_setRow (by assumption) (by omega) _
theorem splice_join (Z H B : List Value) (hz : Z.length = H.length + B.length) : splice (splice Z 0 H) H.length B = H ++ B := by
  unfold splice
  simp
  omega
theorem cutA_at {g n : Nat} {cl : List Value} {l : List Nat} (h0 : 0 < cl.length) (hl : cl.length = l.length) (hn : n - 48 = l.length) : cutA (some ⟨g, 0, none⟩) n 48 = some ⟨g, 48, none⟩ := by
  unfold cutA
  rw [if_neg (by omega)]
  rfl
/-- What was there ahead of a block of one's own is there still, whatever is written into that. -/
theorem row_kept {w0 w1 w2 : World} {a : Option Addr} {l : List Nat} {M : Nat} (h0 : Row w0 a l) (h : Row w1 a l) (hb : Below M w1 w2) (hM : w0.heap.size = M) : Row w2 a l := by
  intro i hi
  obtain ⟨b, off, e, hc, hl⟩ := h0 i hi
  obtain ⟨b', off', e', hc', _⟩ := h i hi
  rw [e] at e'
  simp only [Option.some.injEq, Addr.mk.injEq, and_true] at e'
  obtain ⟨rfl, rfl⟩ := e'
  have hlt := World.block_lt_of_cell? _ _ hc
  exact ⟨b, off, e, by rw [hb.cell (by simp only at hlt ⊢; omega)]; exact hc', hl⟩
set_option maxHeartbeats 800000 in
set_option maxRecDepth 100000 in
theorem bjoin_any (h : List Nat) (a : Option Addr) (cap : Nat) (l : List Nat) (w : World) (hl : h.length = 48) (hb : ∀ i, h.getD i 0 < 256) (hr : Row w a l) (hm : l.length ≤ 1000000) :
    Calls Tryd.prog 93 #[av h, .slice a l.length cap] w fun e w' => ∃ g, e = .returned (.slice (some ⟨g, 0, none⟩) (h ++ l).length (h ++ l).length) ∧ Own w.heap.size w' g (h ++ l).length (h ++ l) ∧ Below w.heap.size w w' := by
  obtain ⟨i0, hi, hz0, hz1, hz2⟩ := info_parts Tryd.info5
  have HR : Hid (Row (w.alloc (.cells (cv h).toArray 155)) (some ⟨w.heap.size, 0, none⟩) h) := row_arr w h hb
  have HRL : Hid (Row (w.alloc (.cells (cv h).toArray 155)) a l) := hr.below (below_box _)
  obtain ⟨n, HN⟩ : ∃ n, Hid ((h ++ l).length = n) := ⟨_, rfl⟩
  have hn : n = 48 + l.length := by rw [← HN.out, List.length_append, hl]
  have HH : Hid ((cv h).length = 48) := by show _ = _; rw [cv_length, hl]
  have HL : Hid ((cv l).length = l.length) := cv_length l
  have HA : Hid (cv h ++ cv l = cv (h ++ l)) := (cv_append h l).symm
  have hwn : IntKind.i64.wrap (48 + (l.length : Int)) = (n : Int) := by rw [IntKind.wrap_i64]; omega
  have hw2 : (48 : Int) + (l.length : Int) = (n : Int) := by omega
  rw [HN.out]
  have hn48 : (48 : Int) ≤ (n : Int) := by omega
  have hnm : n ≤ 1000048 := by omega
  have HNL : Hid (n - 48 = l.length) := by show _ = _; omega
  have hB0 : Below w.heap.size w (w.alloc (.cells (cv h).toArray 155)) := below_box _
  clear hr hb hl
  simp only [av]
  generalize (cv h).toArray = cs at *
  generalize hch : cv h = ch at *
  have HCH : Hid (cv h = ch) := hch
  clear hch
  generalize hcl : cv l = cl at *
  have HCL : Hid (cv l = cl) := hcl
  clear hcl hm hn
  have ks : ∀ w', (Instr.slice 29 (.slice (some ⟨w.heap.size + 1, 0, none⟩) n n) (some (.int .i64 48)) none none).run Tryd.prog w' = .ok (.slice (cutA (some ⟨w.heap.size + 1, 0, none⟩) n 48) (n - 48) (n - 48)) w' := fun w' => run_slice_from w' _ n n 48 .i64 (by omega)
  have tok : True := trivial
  have hsz : (w.alloc (.cells cs 155)).heap.size = w.heap.size + 1 := by simp
  go_enter Tryd.func93, Tryd.ntmps93
  go_wp2_with (first
    | (at_make; refine wpList_make_full _ rfl _ _ 29 rfl (w.heap.size + 1) 5 i0 (.int .u8 0) 1 Tryd.underlying29 hi hz0 hz1 .i64 .i64 _ _ n rfl rfl rfl rfl (by rw [hz2]; omega) (by unfold maxLen; omega) (by simp) ?_; intro w1 hown hg; rw [hsz] at hown ⊢; obtain ⟨cur, hcur, hlen⟩ := made_blk hown; have hbel := below_made hg; have HB1 : Hid (Below w.heap.size w w1) := hB0.trans (hbel.mono (by simp)); have HR1 : Hid (Row w1 (some ⟨w.heap.size, 0, none⟩) h) := Row.below HR.out hbel; have HRL1 : Hid (Row w1 a l) := Row.below HRL.out hbel; have HLn : Hid (cur.length = n) := hlen; clear hlen hown hg hbel)
    | (have _t := tok; refine wpList_copy_splice rfl (.tmp 9) (.tmp 10) 29 29 rfl 5 Tryd.underlying29 Tryd.info5s' _ _ _ _ _ _ rfl rfl (w.heap.size + 1) 0 cur 5 hcur ch (by rw [HH.out]; show 48 = min 48 n; omega) (fun h0 => ⟨rfl, by rw [← HCH.out] at h0 ⊢; exact row_src HR1.out h0⟩) (by rw [HH.out, HLn.out]; omega) (by rw [← HCH.out]; exact cv_one _) (w.heap.size + 1) w1 (Below.refl _ _) (Nat.le_refl _) ?_; clear _t tok; intro w2 HG2 hB2; have HRL2 : Hid (Row w2 a l) := row_kept HRL.out HRL1.out hB2 hsz; have HB2 : Hid (Below w.heap.size w w2) := HB1.out.trans (hB2.mono (by omega)); have HLn2 : Hid ((splice cur 0 ch).length = n) := (by show _ = _; rw [length_splice _ _ _ (by rw [HH.out, HLn.out]; omega)]; exact HLn.out); clear hcur hB2)
    | (refine wpList_copy_splice rfl (.tmp 13) (.tmp 14) 29 29 rfl 5 Tryd.underlying29 Tryd.info5s' _ _ _ _ _ _ rfl rfl (w.heap.size + 1) 48 (splice cur 0 ch) 5 HG2.out cl (by rw [HL.out]; show l.length = min l.length (n - 48); rw [HNL.out]; exact (Nat.min_self _).symm) (fun h0 => ⟨cutA_at h0 HL.out HNL.out, by rw [← HCL.out] at h0 ⊢; exact row_src HRL2.out h0⟩) (by rw [HL.out, HLn2.out, ← HNL.out]; omega) (by rw [← HCL.out]; exact cv_one _) w.heap.size w HB2.out (by omega) ?_; intro w3 HG3 hB3))
  go_ret
  refine ⟨w.heap.size + 1, rfl, own_of (by omega) HN.out.symm (by unfold maxLen; omega) ?_ HG3.out, by assumption⟩
  rw [← HA.out]
  have := splice_join cur ch cl (by rw [HLn.out, HH.out, HL.out, ← HNL.out]; omega)
  rw [HH.out] at this
  exact this
end Go.Proofs.YtaooidckmepdeaaDoor
