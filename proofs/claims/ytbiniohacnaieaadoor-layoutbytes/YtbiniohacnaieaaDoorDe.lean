/- bytes.Equal; Decode, the program's and the document's own. -/
import Derived.Test.YtbiniohacnaieaaDoorEr
import Derived.Laws.BytesArg
import Derived.Laws.Rows
import Derived.Laws.Tables
namespace Go.Proofs.YtbiniohacnaieaaDoor
set_option linter.unusedSimpArgs false
set_option linter.unusedVariables false
open Go.RowKit
def strN (l : List Nat) : ByteArray := strOfNums (l.map fun (c : Nat) => (c : Int))
theorem conv_row {w : World} {a : Option Addr} {l : List Nat} (cap : Nat) (hr : Row w a l) : (convert 31 9 (.slice a l.length cap)).run Tryd.prog w = .ok (.string (strN l)) w := by
  by_cases h0 : 0 < l.length
  · obtain ⟨b, off, rfl, _, _⟩ := hr 0 h0
    refine run_convert_bytes_arg (P := Tryd.prog) w 31 5 Tryd.underlying31 Tryd.underlying5 b off l.length cap (l.map fun (c : Nat) => (c : Int)) (by simp) ?_ 9 Tryd.underlying9
    intro i hi
    obtain ⟨b', off', e, hc, _⟩ := hr i hi
    simp only [Option.some.injEq, Addr.mk.injEq, and_true] at e
    obtain ⟨rfl, rfl⟩ := e
    rw [hc]
    simp [List.getD, hi]
  · obtain rfl : l = [] := List.eq_nil_of_length_eq_zero (by omega)
    rw [run_convert_bytes_string w 31 9 5 _ _ cap Tryd.underlying31 Tryd.underlying5 Tryd.underlying9]
    cases a <;> simp [Conv.bytesToString, loadCells, strN, strOfNums]
    all_goals rfl
theorem str_eq (l m : List Nat) (hl : ∀ x, x ∈ l → x < 256) (hm : ∀ x, x ∈ m → x < 256) : ((strN l).toList == (strN m).toList) = decide (l = m) := by
  rw [ByteArray.toList_eq, ByteArray.toList_eq]
  unfold strN
  rw [strOfNums_data, strOfNums_data, List.map_map, List.map_map]
  have inj : ∀ l m : List Nat, (∀ x, x ∈ l → x < 256) → (∀ x, x ∈ m → x < 256) → l.map ((fun n : Int => UInt8.ofNat n.toNat) ∘ fun (c : Nat) => (c : Int)) = m.map ((fun n : Int => UInt8.ofNat n.toNat) ∘ fun (c : Nat) => (c : Int)) → l = m := by
    intro l
    induction l with
    | nil => intro m _ _ h; cases m with
      | nil => rfl
      | cons y s => simp at h
    | cons x r ih =>
      intro m hl hm h
      cases m with
      | nil => simp at h
      | cons y s =>
        simp only [List.map_cons, List.cons.injEq] at h
        have hx := hl x (by simp)
        have hy := hm y (by simp)
        have e : x = y := by
          have := congrArg UInt8.toNat h.1
          simp only [Function.comp, Int.toNat_natCast, UInt8.toNat_ofNat'] at this
          omega
        rw [e, ih s (fun z hz => hl z (by simp [hz])) (fun z hz => hm z (by simp [hz])) h.2]
  by_cases h : l = m
  · rw [decide_eq_true h, h]; simp
  · rw [decide_eq_false h]
    apply beq_false_of_ne
    intro c
    exact h (inj l m hl hm c)
theorem equal_any (a : Option Addr) (capa : Nat) (l : List Nat) (b : Option Addr) (capb : Nat) (m : List Nat) (w : World) (ha : Row w a l) (hb : Row w b m) :
    Calls Tryd.prog 23 #[.slice a l.length capa, .slice b m.length capb] w fun e w' => e = .returned (.bool (decide (l = m))) ∧ w' = w := by
  have k1 := conv_row capa ha
  have k2 := conv_row capb hb
  have HE : Hid (((strN l).toList == (strN m).toList) = decide (l = m)) := str_eq l m ha.bd hb.bd
  clear ha hb
  generalize strN l = s at *
  generalize strN m = t at *
  go_enter Tryd.func23, Tryd.ntmps23
  go_wp2
  go_ret
  exact ⟨retB HE.out, rfl⟩
/-- A plan's cells. -/
def pv (p : Pl) : Array Value := #[.int .i64 p.bl, .int .i64 p.ino, .int .i64 p.im, .int .i64 p.bm, .int .i64 p.tb, .int .i64 p.da, .int .i64 p.dc]
theorem Tryd.info23 : (Tryd.prog.info? 23).map (·.size) = some 7 := by kernel_rfl
theorem below_setRow {B : Nat} {a w : World} (h : Below B a w) {g : Nat} (hg : B ≤ g) (cs : Array Value) : Below B a (w.setRow g cs) :=
  ⟨h.os, h.tape, h.output, by simp; exact h.size, fun k hk => (setRow_other w g k cs (by omega)).trans (h.block k hk)⟩
theorem results_plan {fn : Func} {p u : Tmp} (h : fn.results = #[.cell p 23, .tmp u]) (tmps : Array Value) (w : World) (g : Nat) (pl : Pl) (v : Value) (hp : tmps.getD p undef = .pointer (some ⟨g, 0, none⟩)) (hv : tmps.getD u undef = v) (hg : w.heap[g]? = some (.cells (pv pl) 23 (0, 0))) :
    (results fn tmps).run Tryd.prog w = .ok (.tuple #[.agg (pv pl), v]) w := by
  have h2 := run_loadVar_row (P := Tryd.prog) w g 23 23 (pv pl) (0, 0) _ hg Tryd.underlying23 rfl Tryd.info23
  subst hv
  rw [results_cell_tmp h, hp]
  simp [asAddr, h2, Result.andThen]
theorem made_box {w v1 : World} (hb1 : Below (w.alloc (.cells (pv z7) 23)).heap.size (w.alloc (.cells (pv z7) 23)) v1) (o : Obj) :
    (v1.alloc o).heap[w.heap.size]? = some (.cells (pv z7) 23 (0, 0)) ∧ Below w.heap.size w v1 ∧ Below w.heap.size w (v1.alloc o) ∧ w.heap.size < v1.heap.size := by
  have hg0 : (w.alloc (.cells (pv z7) 23)).heap[w.heap.size]? = some (.cells (pv z7) 23 (0, 0)) := heap_alloc_new w _
  have hba : Below w.heap.size w (w.alloc (.cells (pv z7) 23)) := (Below.refl _ _).alloc (Nat.le_refl _) _
  have hlt : w.heap.size < (w.alloc (.cells (pv z7) 23)).heap.size := by simp
  have h1 := hba.trans (hb1.mono hba.size)
  exact ⟨((hb1.alloc hb1.size o).block w.heap.size hlt).trans hg0, h1, h1.alloc h1.size o, Nat.lt_of_lt_of_le hlt hb1.size⟩
theorem pv_one (p : Pl) : (pv p).all (·.oneCell') = true := by simp [pv, Value.oneCell']
theorem made_box2 {w v1 v2 : World} {p : Pl} (h : (v1.alloc (.cells (pv p) 23)).heap[w.heap.size]? = some (.cells (pv z7) 23 (0, 0)) ∧ Below w.heap.size w v1 ∧ Below w.heap.size w (v1.alloc (.cells (pv p) 23)) ∧ w.heap.size < v1.heap.size)
    (hb : Below (v1.alloc (.cells (pv p) 23)).heap.size (v1.alloc (.cells (pv p) 23)) v2) :
    v2.heap[w.heap.size]? = some (.cells (pv z7) 23 (0, 0)) ∧ v2.heap[v1.heap.size]? = some (.cells (pv p) 23 (0, 0)) ∧ Below w.heap.size w v2 := by
  have hs : (v1.alloc (.cells (pv p) 23)).heap.size = v1.heap.size + 1 := by simp
  refine ⟨(hb.block _ (by omega)).trans h.1, (hb.block _ (by omega)).trans (heap_alloc_new v1 _), h.2.2.1.trans (hb.mono h.2.2.1.size)⟩
theorem gv_lt (l : List Nat) (p : Nat) (hb : ∀ i, l.getD i 0 < 256) : gv l p < 4294967296 := by
  unfold gv
  split
  · exact sm_lt _ (fun j => hb _) 4
  · omega
theorem get4_any (a : Option Addr) (cap : Nat) (l : List Nat) (p : Nat) (w : World) (hr : Row w a l) (hl : l.length ≤ maxLen) (hp : p ≤ 100) :
    Calls Tryd.prog 21 #[.slice a l.length cap, .int .i64 (p : Int), .int .i64 4, .bool false] w fun e w' => e = .returned (.tuple #[.int .u64 ((gv l p : Nat) : Int), .bool (decide (p + 4 ≤ l.length))]) ∧ w' = w := by
  by_cases h : p + 4 ≤ l.length
  · have := get_yes a cap l p 4 false w hr hl (by omega) (by omega) h
    refine this.mono ?_
    rintro e w' ⟨rfl, rfl⟩
    unfold gv
    rw [if_pos h, decide_eq_true h]
    exact ⟨rfl, rfl⟩
  · have hf : fitsB l.length p 4 = false := by
      unfold fitsB
      rw [decide_eq_false_iff_not]
      omega
    unfold gv
    rw [if_neg h, decide_eq_false h]
    go_enter Tryd.func21, Tryd.ntmps21
    go_wp2_with (go_at_call 29; refine (fits_any _ _ _ _ _ _ hl).mono ?_; rintro e w' ⟨rfl, rfl⟩; rw [hf])
    go_ret2
    exact ⟨rfl, rfl⟩
theorem rget4_any (a : Option Addr) (cap : Nat) (l : List Nat) (p : Nat) (w : World) (hr : Row w a l) (hl : l.length ≤ 2000) (hp : p ≤ 100) :
    Calls Tryd.prog 24 #[.slice a l.length cap, .int .i64 (p : Int), .int .i64 4, .bool false] w fun e w' => e = .returned (.tuple #[.int .u64 ((gv l p : Nat) : Int), .bool (decide (p + 4 ≤ l.length))]) ∧ w' = w := by
  by_cases h : p + 4 ≤ l.length
  · have := rget_yes a cap l p 4 false w hr hl (by omega) (by omega) h
    refine this.mono ?_
    rintro e w' ⟨rfl, rfl⟩
    unfold gv
    rw [if_pos h, decide_eq_true h]
    exact ⟨rfl, rfl⟩
  · have hf : fitsB l.length p 4 = false := by
      unfold fitsB
      rw [decide_eq_false_iff_not]
      omega
    unfold gv
    rw [if_neg h, decide_eq_false h]
    exact rget_no a cap l.length p 4 false w (by unfold maxLen; omega) (by omega) (by omega) hf
set_option maxRecDepth 100000 in
theorem decode_in (a : Option Addr) (cap : Nat) (l : List Nat) (w : World) (ht : Tab w) (hh : Hol w) (hr : Row w a l) (hl : l.length ≤ maxLen) (p : Pl) (c N I : Nat) (hN : N < 4294967296) (hI : I < 4294967296) (b1 b2 : Bool)
    (G1 : Hid (∀ w', Row w' a l → Calls Tryd.prog 21 #[.slice a l.length cap, .int .i64 8, .int .i64 4, .bool false] w' fun e w2 => e = .returned (.tuple #[.int .u64 (N : Int), .bool b1]) ∧ w2 = w'))
    (G2 : Hid (∀ w', Row w' a l → Calls Tryd.prog 21 #[.slice a l.length cap, .int .i64 12, .int .i64 4, .bool false] w' fun e w2 => e = .returned (.tuple #[.int .u64 (I : Int), .bool b2]) ∧ w2 = w'))
    (GM : Hid (∀ w', Hol w' → Calls Tryd.prog 9 #[.int .i64 (N : Int), .int .i64 (I : Int)] w' fun e w2 => e = .returned (.tuple #[p.v, .int .i64 (c : Int)]) ∧ Below w'.heap.size w' w2)) (R : Value)
    (HR : Hid (R = if c = 0 ∧ encL (nums p) = l then .tuple #[p.v, .int .i64 0] else .tuple #[z7.v, .int .i64 10])) :
    Calls Tryd.prog 12 #[.slice a l.length cap] w fun e w' => e = .returned R ∧ Below w.heap.size w w' := by
  have n0 : ∀ w', Calls Tryd.prog 22 #[.int .i64 0] w' fun e w2 => e = .returned (.int .i64 8) ∧ w2 = w' := fun w' => numberAt_any 0 w' (by omega)
  have n1 : ∀ w', Calls Tryd.prog 22 #[.int .i64 1] w' fun e w2 => e = .returned (.int .i64 12) ∧ w2 = w' := fun w' => numberAt_any 1 w' (by omega)
  have H0 : Hid _ := n0
  have H1 : Hid _ := n1
  have wN : IntKind.i64.wrap (N : Int) = N := by rw [IntKind.wrap_i64]; omega
  have wI : IntKind.i64.wrap (I : Int) = I := by rw [IntKind.wrap_i64]; omega
  clear n0 n1
  have tok1 : True := trivial
  have tok2 : True := trivial
  have hra : ∀ o, Row (w.alloc o) a l := fun o => hr.below ((Below.refl _ _).alloc (Nat.le_refl _) _)
  have hha : ∀ o, Hol (w.alloc o) := fun o => hh.alloc o
  have hta : Tab (w.alloc (.cells (pv z7) 23)) := ht.below ((Below.refl _ _).alloc (Nat.le_refl _) _)
  by_cases hc : c = 0
  · subst hc
    obtain ⟨p1, p2, p3, p4, p5, p6, p7⟩ := p
    have HE : Hid _ := encode_any ⟨p1, p2, p3, p4, p5, p6, p7⟩
    obtain ⟨E, HEE⟩ : ∃ E, Hid (encL (nums ⟨p1, p2, p3, p4, p5, p6, p7⟩) = E) := ⟨_, rfl⟩
    have HB : Hid (∀ i, E.getD i 0 < 256) := by rw [← HEE.out]; exact encL_lt _
    have hEl : E.length = 512 := by rw [← HEE.out, encL_len]
    rw [HEE.out] at HE HR
    have hQ := fun g w' (h1 : Row w' (some ⟨g, 0, none⟩) E) (h2 : Row w' a l) => equal_any (some ⟨g, 0, none⟩) 512 E a cap l w' h1 h2
    rw [hEl] at hQ
    simp only [Pl.v] at HE
    by_cases hq : E = l
    · have hRR : R = .tuple #[.agg (pv ⟨p1, p2, p3, p4, p5, p6, p7⟩), .int .i64 0] := by rw [HR.out, if_pos ⟨rfl, hq⟩]; rfl
      subst hRR
      rw [decide_eq_true hq] at hQ
      have HQ : Hid _ := hQ
      clear hQ hq hEl
      go_enter Tryd.func12, Tryd.ntmps12
      go_wp2_with (first
        | (go_at_call 22; have _t := tok1; refine (H0.out _).mono ?_; clear tok1 _t; rintro e v1 ⟨rfl, hw⟩; subst v1)
        | (go_at_call 22; refine (H1.out _).mono ?_; rintro e v1 ⟨rfl, hw⟩; subst v1)
        | (go_at_call 21; have _t := tok2; refine (G1.out _ (hra _)).mono ?_; clear tok2 _t; rintro e v1 ⟨rfl, hw⟩; subst v1)
        | (go_at_call 21; refine (G2.out _ (hra _)).mono ?_; rintro e v1 ⟨rfl, hw⟩; subst v1)
        | (go_at_call 9; refine (GM.out _ (hha _)).mono ?_; rintro e v1 ⟨rfl, hb1⟩; have HF : Hid _ := made_box hb1 (.cells (pv ⟨p1, p2, p3, p4, p5, p6, p7⟩) 23); clear hb1; simp only [Pl.v])
        | (go_at_call 15; refine (HE.out _ (ht.below HF.out.2.2.1)).mono ?_; rintro e v2 ⟨⟨g, rfl, hown⟩, hb2⟩; have HF2 : Hid _ := made_box2 HF.out hb2; have HRE := hown.row HB.out; have HRB := hr.below HF2.out.2.2; clear hb2 hown)
        | (go_at_call 23; refine (HQ.out _ _ HRE HRB).mono ?_; rintro e v3 ⟨rfl, hw⟩; subst v3)
        | (have _t := HF2; refine wpList_load_row rfl 23 _ rfl v1.heap.size rfl 23 (pv ⟨p1, p2, p3, p4, p5, p6, p7⟩) (0, 0) _ HF2.out.2.1 Tryd.underlying23 rfl Tryd.info23 ?_)
        | (have _t := HF2; refine wpList_store_row rfl 23 _ _ rfl w.heap.size (pv ⟨p1, p2, p3, p4, p5, p6, p7⟩) rfl rfl 23 (pv z7) HF2.out.1 Tryd.info23 rfl (pv_one _) ?_))
      refine bodyPost_ret (v := .tuple #[.agg (pv ⟨p1, p2, p3, p4, p5, p6, p7⟩), .int .i64 0]) ?_ rfl ⟨rfl, ?_⟩
      · exact results_plan (p := 2) (u := 3) (by rfl) _ _ w.heap.size ⟨p1, p2, p3, p4, p5, p6, p7⟩ _ (by rfl) (by rfl) (setRow_heap _ _ _ _ _ _ HF2.out.1)
      · exact below_setRow HF2.out.2.2 (Nat.le_refl _) _
    · have hRR : R = .tuple #[.agg (pv z7), .int .i64 10] := by rw [HR.out, if_neg (fun c => hq c.2)]; rfl
      subst hRR
      rw [decide_eq_false hq] at hQ
      have HQ : Hid _ := hQ
      clear hQ hq hEl
      go_enter Tryd.func12, Tryd.ntmps12
      go_wp2_with (first
        | (go_at_call 22; have _t := tok1; refine (H0.out _).mono ?_; clear tok1 _t; rintro e v1 ⟨rfl, hw⟩; subst v1)
        | (go_at_call 22; refine (H1.out _).mono ?_; rintro e v1 ⟨rfl, hw⟩; subst v1)
        | (go_at_call 21; have _t := tok2; refine (G1.out _ (hra _)).mono ?_; clear tok2 _t; rintro e v1 ⟨rfl, hw⟩; subst v1)
        | (go_at_call 21; refine (G2.out _ (hra _)).mono ?_; rintro e v1 ⟨rfl, hw⟩; subst v1)
        | (go_at_call 9; refine (GM.out _ (hha _)).mono ?_; rintro e v1 ⟨rfl, hb1⟩; have HF : Hid _ := made_box hb1 (.cells (pv ⟨p1, p2, p3, p4, p5, p6, p7⟩) 23); clear hb1; simp only [Pl.v])
        | (go_at_call 15; refine (HE.out _ (ht.below HF.out.2.2.1)).mono ?_; rintro e v2 ⟨⟨g, rfl, hown⟩, hb2⟩; have HF2 : Hid _ := made_box2 HF.out hb2; have HRE := hown.row HB.out; have HRB := hr.below HF2.out.2.2; clear hb2 hown)
        | (go_at_call 23; refine (HQ.out _ _ HRE HRB).mono ?_; rintro e v3 ⟨rfl, hw⟩; subst v3)
        | (have _t := HF2; refine wpList_store_row rfl 23 _ _ rfl w.heap.size (pv z7) rfl rfl 23 (pv z7) HF2.out.1 Tryd.info23 rfl (pv_one _) ?_))
      refine bodyPost_ret (v := .tuple #[.agg (pv z7), .int .i64 10]) ?_ rfl ⟨rfl, ?_⟩
      · exact results_plan (p := 2) (u := 3) (by rfl) _ _ w.heap.size z7 _ (by rfl) (by rfl) (setRow_heap _ _ _ _ _ _ HF2.out.1)
      · exact below_setRow HF2.out.2.2 (Nat.le_refl _) _
  · have hcc : ((c : Int) != 0) = true := by rw [bne_iff_ne]; omega
    have HC : Hid (¬ c = 0) := hc
    clear hc
    have hRR : R = .tuple #[.agg (pv z7), .int .i64 10] := by rw [HR.out, if_neg (fun q => HC.out q.1)]; rfl
    subst hRR
    obtain ⟨p1, p2, p3, p4, p5, p6, p7⟩ := p
    go_enter Tryd.func12, Tryd.ntmps12
    go_wp2_with (first
      | (go_at_call 22; have _t := tok1; refine (H0.out _).mono ?_; clear tok1 _t; rintro e v1 ⟨rfl, hw⟩; subst v1)
      | (go_at_call 22; refine (H1.out _).mono ?_; rintro e v1 ⟨rfl, hw⟩; subst v1)
      | (go_at_call 21; have _t := tok2; refine (G1.out _ (hra _)).mono ?_; clear tok2 _t; rintro e v1 ⟨rfl, hw⟩; subst v1)
      | (go_at_call 21; refine (G2.out _ (hra _)).mono ?_; rintro e v1 ⟨rfl, hw⟩; subst v1)
      | (go_at_call 9; refine (GM.out _ (hha _)).mono ?_; rintro e v1 ⟨rfl, hb1⟩; have HF : Hid _ := made_box hb1 (.cells (pv ⟨p1, p2, p3, p4, p5, p6, p7⟩) 23); clear hb1; simp only [Pl.v])
      | (have _t := HF; refine wpList_store_row rfl 23 (.tmp 2) (.tmp 39) rfl w.heap.size (pv z7) rfl rfl 23 (pv z7) HF.out.1 Tryd.info23 rfl (pv_one _) ?_))
    refine bodyPost_ret (v := .tuple #[.agg (pv z7), .int .i64 10]) ?_ rfl ⟨rfl, ?_⟩
    · exact results_plan (p := 2) (u := 3) (by rfl) _ _ w.heap.size z7 _ (by rfl) (by rfl) (setRow_heap _ _ _ _ _ _ HF.out.1)
    · exact below_setRow HF.out.2.2.1 (Nat.le_refl _) _
theorem mkE_cases (n i : Int) : mkE n i = 0 ∨ mkE n i = 1 ∨ mkE n i = 3 := by
  unfold mkE
  split
  · split
    · exact .inr (.inr rfl)
    · exact .inl rfl
  · exact .inr (.inl rfl)
theorem mkE_nat (n i : Int) : ((mkE n i).toNat : Int) = mkE n i := by rcases mkE_cases n i with h | h | h <;> rw [h] <;> rfl
theorem dec_R (l : List Nat) : (Value.tuple #[(decP l).v, .int .i64 (decE l)]) = if (mkE (gv l 8) (gv l 12)).toNat = 0 ∧ encL (nums (mkP (gv l 8) (gv l 12))) = l then .tuple #[(mkP (gv l 8) (gv l 12)).v, .int .i64 0] else .tuple #[z7.v, .int .i64 10] := by
  have h0 := mkE_nat (gv l 8) (gv l 12)
  unfold decP decE
  by_cases hg : decG l
  · have h1 : (mkE (gv l 8) (gv l 12)).toNat = 0 ∧ encL (nums (mkP (gv l 8) (gv l 12))) = l := ⟨by rw [hg.1]; rfl, hg.2⟩
    rw [if_pos hg, if_pos hg, if_pos h1]
  · have h1 : ¬ ((mkE (gv l 8) (gv l 12)).toNat = 0 ∧ encL (nums (mkP (gv l 8) (gv l 12))) = l) := fun q => hg ⟨by rw [← h0, q.1]; rfl, q.2⟩
    rw [if_neg hg, if_neg hg, if_neg h1]
theorem decode_any (a : Option Addr) (cap : Nat) (l : List Nat) (w : World) (ht : Tab w) (hh : Hol w) (hr : Row w a l) (hl : l.length ≤ maxLen) :
    Calls Tryd.prog 12 #[.slice a l.length cap] w fun e w' => e = .returned (.tuple #[(decP l).v, .int .i64 (decE l)]) ∧ Below w.heap.size w w' := by
  refine decode_in a cap l w ht hh hr hl (mkP (gv l 8) (gv l 12)) (mkE (gv l 8) (gv l 12)).toNat (gv l 8) (gv l 12) (gv_lt l 8 hr.lt) (gv_lt l 12 hr.lt) (decide (8 + 4 ≤ l.length)) (decide (12 + 4 ≤ l.length)) (fun w' h => get4_any a cap l 8 w' h hl (by omega)) (fun w' h => get4_any a cap l 12 w' h hl (by omega)) (fun w' h => ?_) _ (dec_R l)
  rw [mkE_nat]
  exact make_any _ _ w' h
end Go.Proofs.YtbiniohacnaieaaDoor
