/- The reader: fail, get, natural, number, upTo, text. -/
import Derived.Test.YtaooidckmepdeaaDoorKd
namespace Go.Proofs.YtaooidckmepdeaaDoor
set_option linter.unusedSimpArgs false
set_option linter.unusedVariables false
open Go.RowKit
/-- All stays, but for block B. -/
structure KeepB (B : Nat) (w w' : World) : Prop where
  size : w.heap.size ≤ w'.heap.size
  blk : ∀ x, x ≠ B → x < w.heap.size → w'.heap[x]? = w.heap[x]?
theorem KeepB.refl (B : Nat) (w : World) : KeepB B w w := ⟨Nat.le_refl _, fun _ _ _ => rfl⟩
theorem KeepB.trans {B : Nat} {w w1 w2 : World} (h : KeepB B w w1) (k : KeepB B w1 w2) : KeepB B w w2 :=
  ⟨Nat.le_trans h.size k.size, fun x hx hl => (k.blk x hx (Nat.lt_of_lt_of_le hl h.size)).trans (h.blk x hx hl)⟩
theorem KeepB.of_below {B : Nat} {w w' : World} (h : Below w.heap.size w w') : KeepB B w w' := ⟨h.size, fun x _ hl => h.block x hl⟩
theorem KeepB.setCell (B off : Nat) (w : World) (v : Value) : KeepB B w (w.setCell ⟨B, off, none⟩ v) :=
  ⟨by simp [World.setCell], fun x hx _ => heap_setCell_other w ⟨B, off, none⟩ x v hx⟩
theorem KeepB.box {B x : Nat} {w w' : World} {o : Obj} (k : KeepB B w w') (h : w.heap[x]? = some o) (hx : x ≠ B) : w'.heap[x]? = some o := (k.blk x hx (Array.getElem?_eq_some_iff.1 h).1).trans h
def lft (st : Ls) : List Nat := st.getD []
/-- The reader's box lies behind w0: what is left, or that it is bad. -/
structure RdR (w0 w : World) (st : Ls) : Prop where
  box : ∃ a cap, w.heap[w0.heap.size]? = some (.cells #[.slice a (lft st).length cap, .bool st.isNone] 89 (0, 0)) ∧ Row w0 a (lft st) ∧ (lft st).length ≤ cap ∧ cap ≤ maxLen ∧ (a = none → cap = 0) ∧ (lft st).length ≤ 1000000000000
  bel : Below w0.heap.size w0 w
theorem RdR.below {w0 w w' : World} {st : Ls} (h : RdR w0 w st) (hb : Below w.heap.size w w') : RdR w0 w' st := by
  obtain ⟨a, cap, hx, r⟩ := h.box
  exact ⟨⟨a, cap, (hb.block _ (Array.getElem?_eq_some_iff.1 hx).1).trans hx, r⟩, h.bel.trans (hb.mono h.bel.size)⟩
theorem RdR.byt {w0 w : World} {st : Ls} (h : RdR w0 w st) : Byt (lft st) := by
  obtain ⟨a, cap, _, hr, _⟩ := h.box
  intro c hc
  obtain ⟨i, hi, rfl⟩ := List.getElem_of_mem hc
  have := hr.lt i
  simpa [List.getD, hi] using this
/-- What a method of the reader leaves. -/
def RP (w0 w : World) (v : Value) (st : Ls) (e : Ending) (w' : World) : Prop := e = .returned v ∧ RdR w0 w' st ∧ KeepB w0.heap.size w w'
theorem RdR.fail {w0 w : World} {st : Ls} (h : RdR w0 w st) : RdR w0 ((w.setCell ⟨w0.heap.size, 0, none⟩ (.slice none 0 0)).setCell ⟨w0.heap.size, 1, none⟩ (.bool true)) none ∧ KeepB w0.heap.size w ((w.setCell ⟨w0.heap.size, 0, none⟩ (.slice none 0 0)).setCell ⟨w0.heap.size, 1, none⟩ (.bool true)) := by
  obtain ⟨a, cap, hx, _⟩ := h.box
  refine ⟨⟨⟨none, 0, ?_, Row.nil _ _, Nat.le_refl _, by decide, fun _ => rfl, by simp [lft]⟩, (h.bel.setCell (p := ⟨w0.heap.size, 0, none⟩) (Nat.le_refl _) _).setCell (p := ⟨w0.heap.size, 1, none⟩) (Nat.le_refl _) _⟩, (KeepB.setCell _ _ _ _).trans (KeepB.setCell _ _ _ _)⟩
  rw [setCell_heap (by rw [setCell_heap hx])]
  rfl
set_option maxRecDepth 100000 in
theorem rfail_any (w0 w : World) (st : Ls) (h : RdR w0 w st) : Calls Tryd.prog 68 #[.pointer (some ⟨w0.heap.size, 0, none⟩)] w (RP w0 w (.tuple #[]) none) := by
  have HF : Hid _ := h.fail
  obtain ⟨a, cap, hx, _⟩ := h.box
  have c0 := (box_at hx 0).1
  have c1 := (box_at hx 1).1
  have f0 := (box_at hx 0).2
  have f1 := (box_at hx 1).2
  simp only [List.getElem?_toArray, List.getElem?_cons_zero, List.getElem?_cons_succ] at c0 c1
  clear hx h
  go_enter Tryd.func68, Tryd.ntmps68
  go_wp2_with fail
  go_end0
  exact ⟨rfl, HF.out.1, HF.out.2⟩
theorem get_no (a : Option Addr) (cap len : Nat) (p size : Int) (big : Bool) (w : World) (hl : len ≤ maxLen) (hf : fitsB len p size = false) :
    Calls Tryd.prog 67 #[.slice a len cap, .int .i64 p, .int .i64 size, .bool big] w fun e w' => e = .returned (.tuple #[.int .u64 0, .bool false]) ∧ w' = w := by
  go_enter Tryd.func67, Tryd.ntmps67
  go_wp2_with (go_at_call 78; refine (fits_any _ _ _ _ _ _ hl).mono ?_; rintro e w' ⟨rfl, rfl⟩; rw [hf])
  go_ret2
  exact ⟨rfl, rfl⟩
theorem run_cut (w : World) (a : Option Addr) (len cap n : Nat) (Z : Int) (hZ : Z = n) (h : n ≤ len) : (Instr.slice 29 (.slice a len cap) (some (.int .i64 Z)) none none).run Tryd.prog w = .ok (.slice (cutA a cap n) (len - n) (cap - n)) w := by
  subst hZ
  exact run_slice_from w a len cap n .i64 h
theorem cut_none {a : Option Addr} {cap n : Nat} (h : a = none → cap = 0) (hn : n ≤ cap) : cutA a cap n = none → cap - n = 0 := by
  intro e
  unfold cutA at e
  split at e
  · omega
  · cases a with
    | none => have := h rfl; omega
    | some x => simp at e
theorem RdR.cut {w0 w : World} {l : List Nat} {a : Option Addr} {cap n : Nat} {b : Bool} {v : Value} (hb : Below w0.heap.size w0 w) (hx : w.heap[w0.heap.size]? = some (.cells #[v, .bool false] 89 (0, 0))) (hr : Row w0 a l) (hl : l.length ≤ cap) (hc : cap ≤ maxLen) (hn : a = none → cap = 0) (hn2 : n ≤ l.length) (hbig : l.length ≤ 1000000000000) :
    RdR w0 (w.setCell ⟨w0.heap.size, 0, none⟩ (.slice (cutA a cap n) (l.length - n) (cap - n))) (some (l.drop n)) ∧ KeepB w0.heap.size w (w.setCell ⟨w0.heap.size, 0, none⟩ (.slice (cutA a cap n) (l.length - n) (cap - n))) := by
  refine ⟨⟨⟨cutA a cap n, cap - n, ?_, row_cut cap n hr hl, by simp [lft]; omega, by omega, cut_none hn (by omega), by simp [lft]; omega⟩, hb.setCell (p := ⟨w0.heap.size, 0, none⟩) (Nat.le_refl _) _⟩, KeepB.setCell _ _ _ _⟩
  rw [setCell_heap hx]
  simp [lft]
set_option maxHeartbeats 400000 in
set_option maxRecDepth 100000 in
theorem rget_any (w0 w : World) (st : Ls) (n : Nat) (Z : Int) (hZ : Z = n) (hn1 : 1 ≤ n) (hn8 : n ≤ 8) (h : RdR w0 w st) : Calls Tryd.prog 48 #[.pointer (some ⟨w0.heap.size, 0, none⟩), .int .i64 Z] w (RP w0 w (.int .u64 ((gN n st).1 : Nat)) (gN n st).2) := by
  have HFail : Hid (∀ x, RdR w0 x st → Calls Tryd.prog 68 #[.pointer (some ⟨w0.heap.size, 0, none⟩)] x (RP w0 x (.tuple #[]) none)) := fun x hx => rfail_any w0 x st hx
  obtain ⟨a, cap, hx, hr, hl, hc, hn, hbig⟩ := h.box
  have HR : Hid (RdR w0 w st) := h
  by_cases hle : n ≤ (lft st).length
  · obtain ⟨l, rfl⟩ : ∃ l, st = some l := by
      cases st with
      | none => simp [lft] at hle; omega
      | some l => exact ⟨l, rfl⟩
    have e1 : gN n (some l) = (getV l 0 n true, some (l.drop n)) := by unfold gN; simp only; rw [if_pos (show n ≤ l.length from hle)]
    rw [e1]
    simp only [lft, Option.getD_some, Option.isNone_some] at *
    have HG : Hid (Calls Tryd.prog 67 #[.slice a l.length cap, .int .i64 0, .int .i64 Z, .bool true] w fun e w' => e = .returned (.tuple #[.int .u64 ((getV l 0 n true : Nat) : Int), .bool true]) ∧ w' = w) := by
      subst hZ
      exact get_yes a cap l 0 n true w (hr.below h.bel) (by omega) hn1 hn8 (by omega)
    have ks := fun y => run_cut y a l.length cap n Z hZ hle
    have HC : Hid _ := RdR.cut (n := n) (b := false) h.bel hx hr hl hc hn hle hbig
    have c0 := (box_at hx 0).1
    have c1 := (box_at hx 1).1
    have f0 := (box_at hx 0).2
    simp only [List.getElem?_toArray, List.getElem?_cons_zero, List.getElem?_cons_succ] at c0 c1
    clear hx hr h e1 HFail HR hZ
    generalize getV l 0 n true = V at *
    go_enter Tryd.func48, Tryd.ntmps48
    go_wp2_with (go_at_call 67; refine Calls.mono HG.out ?_; rintro e w1 ⟨rfl, rfl⟩)
    go_ret
    exact ⟨rfl, HC.out.1, HC.out.2⟩
  · have e1 : gN n st = (0, none) := by
      cases st with
      | none => rfl
      | some l => unfold gN; simp only; rw [if_neg (by simpa [lft] using hle)]
    rw [e1]
    have HG : Hid (Calls Tryd.prog 67 #[.slice a (lft st).length cap, .int .i64 0, .int .i64 Z, .bool true] w fun e w' => e = .returned (.tuple #[.int .u64 0, .bool false]) ∧ w' = w) :=
      get_no a cap _ 0 Z true w (by omega) (by simp [fitsB]; omega)
    have c0 := (box_at hx 0).1
    simp only [List.getElem?_toArray, List.getElem?_cons_zero] at c0
    clear hx hr h e1 hZ hle
    generalize (lft st).length = N at *
    go_enter Tryd.func48, Tryd.ntmps48
    go_wp2_with (first
      | (go_at_call 67; refine Calls.mono HG.out ?_; rintro e w1 ⟨rfl, rfl⟩)
      | (go_at_call 68; refine (HFail.out _ HR.out).mono ?_; rintro e w2 ⟨rfl, hw2, hk2⟩))
    go_ret
    exact ⟨rfl, hw2, hk2⟩
theorem gN_lt (n : Nat) (st : Ls) (h : Byt (lft st)) : (gN n st).1 < 256 ^ n := by
  cases st with
  | none => exact Nat.pow_pos (by decide)
  | some l =>
    unfold gN
    simp only
    split
    · exact getV_lt l 0 n (Byt.getD h)
    · exact Nat.pow_pos (by decide)
set_option maxRecDepth 100000 in
theorem rnat_any (w0 w : World) (st : Ls) (n : Nat) (Z : Int) (hZ : Z = n) (hn1 : 1 ≤ n) (hn4 : n ≤ 4) (h : RdR w0 w st) : Calls Tryd.prog 32 #[.pointer (some ⟨w0.heap.size, 0, none⟩), .int .i64 Z] w (RP w0 w (.int .i64 ((gN n st).1 : Nat)) (gN n st).2) := by
  have HG : Hid _ := rget_any w0 w st n Z hZ hn1 (by omega) h
  have hlt : (gN n st).1 < 4294967296 := Nat.lt_of_lt_of_le (gN_lt n st h.byt) (Nat.le_trans (Nat.pow_le_pow_right (by decide) hn4) (by decide))
  clear h hZ
  generalize (gN n st).1 = V at *
  generalize (gN n st).2 = s2 at *
  have hw : wrap64 (V : Int) = (V : Int) := by unfold wrap64; omega
  go_enter Tryd.func32, Tryd.ntmps32
  go_wp2_with (go_at_call 48; refine Calls.mono HG.out ?_; rintro e w2 ⟨rfl, hw2, hk2⟩)
  go_ret
  exact ⟨by first | rfl | (simp only [hw]; rfl), hw2, hk2⟩
theorem wrap_iv (V : Nat) (h : V < 18446744073709551616) : wrap64 (V : Int) = iv V := by
  unfold wrap64 iv
  split <;> omega
set_option maxRecDepth 100000 in
theorem rnum_any (w0 w : World) (st : Ls) (h : RdR w0 w st) : Calls Tryd.prog 69 #[.pointer (some ⟨w0.heap.size, 0, none⟩)] w (RP w0 w (.int .i64 (gI st).1) (gI st).2) := by
  have HG : Hid _ := rget_any w0 w st 8 8 rfl (by decide) (by decide) h
  have hlt : (gN 8 st).1 < 18446744073709551616 := gN_lt 8 st h.byt
  unfold gI
  clear h
  have hv := wrap_iv _ hlt
  generalize (gN 8 st).1 = V at *
  generalize (gN 8 st).2 = s2 at *
  generalize iv V = v at *
  go_enter Tryd.func69, Tryd.ntmps69
  go_wp2_with (go_at_call 48; refine Calls.mono HG.out ?_; rintro e w2 ⟨rfl, hw2, hk2⟩)
  go_ret
  exact ⟨by first | rfl | (simp only [hv]; rfl), hw2, hk2⟩
set_option maxRecDepth 100000 in
theorem rup_any (w0 w : World) (st : Ls) (most : Nat) (Z M : Int) (hZ : Z = 1) (hM : M = most) (hm : most ≤ 255) (h : RdR w0 w st) : Calls Tryd.prog 70 #[.pointer (some ⟨w0.heap.size, 0, none⟩), .int .i64 Z, .int .i64 M] w (RP w0 w (.int .i64 ((gUp 1 most st).1 : Nat)) (gUp 1 most st).2) := by
  have HG : Hid _ := rnat_any w0 w st 1 Z hZ (by decide) (by decide) h
  have HFail : Hid (∀ x, RdR w0 x (gN 1 st).2 → Calls Tryd.prog 68 #[.pointer (some ⟨w0.heap.size, 0, none⟩)] x (RP w0 x (.tuple #[]) none)) := fun x hx => rfail_any w0 x _ hx
  have hlt : (gN 1 st).1 < 256 := gN_lt 1 st h.byt
  by_cases hgt : most < (gN 1 st).1
  · have e1 : gUp 1 most st = (0, none) := by unfold gUp; rw [if_pos hgt]
    rw [e1]
    clear h hZ e1
    generalize (gN 1 st).1 = V at *
    generalize (gN 1 st).2 = s2 at *
    have hg : M < (V : Int) := by omega
    clear hM
    go_enter Tryd.func70, Tryd.ntmps70
    go_wp2_with (first
      | (go_at_call 32; refine Calls.mono HG.out ?_; rintro e w2 ⟨rfl, hw2, hk2⟩)
      | (go_at_call 68; refine (HFail.out _ hw2).mono ?_; rintro e w3 ⟨rfl, hw3, hk3⟩))
    go_ret
    exact ⟨rfl, hw3, hk2.trans hk3⟩
  · have e1 : gUp 1 most st = gN 1 st := by unfold gUp; rw [if_neg hgt]
    rw [e1]
    clear h hZ e1 HFail
    generalize (gN 1 st).1 = V at *
    generalize (gN 1 st).2 = s2 at *
    have hg : (V : Int) ≤ M := by omega
    clear hM
    go_enter Tryd.func70, Tryd.ntmps70
    go_wp2_with (go_at_call 32; refine Calls.mono HG.out ?_; rintro e w2 ⟨rfl, hw2, hk2⟩)
    go_ret
    exact ⟨rfl, hw2, hk2⟩
theorem run_slice_to (w : World) (a : Option Addr) (len cap n : Nat) (h : n ≤ len) (h2 : len ≤ cap) : (Instr.slice 29 (.slice a len cap) none (some (.int .i64 (n : Int))) none).run Tryd.prog w = .ok (.slice a n cap) w := by
  have hs : (sizeOf 5).run Tryd.prog w = .ok 1 w := by
    obtain ⟨i, hi, e⟩ := Option.map_eq_some_iff.1 Tryd.info5s
    simp [sizeOf, typeInfo, hi, e]
  have h3 : (0 : Int) ≤ (n : Int) ∧ (n : Int) ≤ (cap : Int) := by omega
  have hle : n ≤ cap := by omega
  have ha : ∀ ad : Addr, ad.add 0 = ad := fun ad => by
    obtain ⟨b, o, s⟩ := ad
    cases s <;> simp [Addr.add]
  cases a with
  | none => simp [Instr.slice, run_underlying Tryd.underlying29, Instr.sliceBounds, Instr.sliceBound, asIntOf, h3, hs, hle]
  | some ad =>
    by_cases h0 : cap = 0
    · obtain rfl : n = 0 := by omega
      subst h0
      simp [Instr.slice, run_underlying Tryd.underlying29, Instr.sliceBounds, Instr.sliceBound, asIntOf, hs, ha]
    · simp [Instr.slice, run_underlying Tryd.underlying29, Instr.sliceBounds, Instr.sliceBound, asIntOf, h3, hs, hle, h0, ha]
set_option maxHeartbeats 400000 in
set_option maxRecDepth 100000 in
theorem rtext_any (w0 w : World) (st : Ls) (h : RdR w0 w st) : Calls Tryd.prog 71 #[.pointer (some ⟨w0.heap.size, 0, none⟩)] w (RP w0 w (.string (gT st).1) (gT st).2) := by
  have HG : Hid _ := rnat_any w0 w st 2 2 rfl (by decide) (by decide) h
  have hlt : (gN 2 st).1 < 65536 := gN_lt 2 st h.byt
  have HFail : Hid (∀ s x, RdR w0 x s → Calls Tryd.prog 68 #[.pointer (some ⟨w0.heap.size, 0, none⟩)] x (RP w0 x (.tuple #[]) none)) := fun s x hx => rfail_any w0 x s hx
  have HZ : Hid ((gN 2 st).2 = none → (gN 2 st).1 = 0) := by
    intro e
    cases st with
    | none => rfl
    | some l =>
      unfold gN at e ⊢
      simp only at e ⊢
      split at e
      · cases e
      · rename_i hq; rw [if_neg hq]
  unfold gT
  cases hg : gN 2 st with
  | mk V s2 =>
    rw [hg] at HG hlt HZ
    simp only at HG hlt HZ
    clear h hg
    by_cases hle : V ≤ (lft s2).length
    · have e1 : gB (V, s2) = (strN ((lft s2).take V), if s2 = none then none else some ((lft s2).drop V)) := by
        cases s2 with
        | none => obtain rfl := HZ.out rfl; rfl
        | some l1 => simp only [gB, lft, Option.getD_some]; rw [if_pos (show V ≤ l1.length from hle)]; simp
      rw [e1]
      have HX : Hid (∀ x, RdR w0 x s2 → ∃ a cap, x.cell? ⟨w0.heap.size, 0, none⟩ = some (.slice a (lft s2).length cap) ∧ x.frozen? ⟨w0.heap.size, 0, none⟩ = false ∧ (Instr.slice 29 (.slice a (lft s2).length cap) none (some (.int .i64 (V : Int))) none).run Tryd.prog x = .ok (.slice a V cap) x ∧ (Instr.slice 29 (.slice a (lft s2).length cap) (some (.int .i64 (V : Int))) none none).run Tryd.prog x = .ok (.slice (cutA a cap V) ((lft s2).length - V) (cap - V)) x ∧ (convert 29 9 (.slice a V cap)).run Tryd.prog x = .ok (.string (strN ((lft s2).take V))) x ∧ Hid (RdR w0 (x.setCell ⟨w0.heap.size, 0, none⟩ (.slice (cutA a cap V) ((lft s2).length - V) (cap - V))) (if s2 = none then none else some ((lft s2).drop V)) ∧ KeepB w0.heap.size x (x.setCell ⟨w0.heap.size, 0, none⟩ (.slice (cutA a cap V) ((lft s2).length - V) (cap - V))))) := by
        intro x hx
        obtain ⟨a, cap, hbx, hr, hl, hc, hn, hbig⟩ := hx.box
        refine ⟨a, cap, (box_at hbx 0).1, (box_at hbx 0).2, run_slice_to x a _ cap V hle hl, run_cut x a _ cap V V rfl hle, conv_take cap (hr.below hx.bel) (Nat.not_lt.2 hle), ?_⟩
        cases s2 with
        | none =>
          obtain rfl := HZ.out rfl
          simp only [lft, Option.getD_none, List.length_nil, Option.isNone_none, if_true, Nat.sub_zero] at *
          refine ⟨⟨⟨cutA a cap 0, cap, ?_, ?_, by simp [lft], hc, ?_, by simp [lft]⟩, hx.bel.setCell (p := ⟨w0.heap.size, 0, none⟩) (Nat.le_refl _) _⟩, KeepB.setCell _ _ _ _⟩
          · rw [setCell_heap hbx]; rfl
          · exact fun i hi => by simp [lft] at hi
          · intro e
            have := cut_none hn (Nat.zero_le _) e
            omega
        | some l1 =>
          simp only [lft, Option.getD_some, reduceCtorEq, if_false, Option.isNone_some] at *
          exact RdR.cut (b := false) hx.bel hbx hr hl hc hn hle hbig
      have hleI : (V : Int) ≤ ((lft s2).length : Int) := by omega
      clear HFail HZ e1 hle
      generalize (if s2 = none then none else some ((lft s2).drop V)) = s3 at *
      generalize strN ((lft s2).take V) = S at *
      have HX2 := HX
      clear HX
      have HX : Hid _ := HX2
      clear HX2
      obtain ⟨LL, HLL⟩ : ∃ LL, Hid ((lft s2).length = LL) := ⟨_, rfl⟩
      rw [HLL.out] at HX hleI
      go_enter Tryd.func71, Tryd.ntmps71
      go_wp2_with (go_at_call 32; refine Calls.mono HG.out ?_; rintro e w2 ⟨rfl, hw2, hk2⟩; obtain ⟨a2, cap2, z0, z1, z2, z3, z4, z5⟩ := HX.out w2 hw2; clear hw2)
      go_ret
      exact ⟨rfl, z5.out.1, hk2.trans z5.out.2⟩
    · have e1 : gB (V, s2) = (⟨#[]⟩, none) := by
        cases s2 with
        | none => rfl
        | some l1 => simp only [gB]; rw [if_neg (by simpa [lft] using hle)]
      rw [e1]
      have HX : Hid (∀ x, RdR w0 x s2 → ∃ a cap, x.cell? ⟨w0.heap.size, 0, none⟩ = some (.slice a (lft s2).length cap)) := by
        intro x hx
        obtain ⟨a, cap, hbx, _⟩ := hx.box
        exact ⟨a, cap, (box_at hbx 0).1⟩
      have hltI : ((lft s2).length : Int) < (V : Int) := by omega
      clear hle e1 HZ
      generalize (lft s2).length = LL at *
      go_enter Tryd.func71, Tryd.ntmps71
      go_wp2_with (first
        | (go_at_call 32; refine Calls.mono HG.out ?_; rintro e w2 ⟨rfl, hw2, hk2⟩; obtain ⟨a2, cap2, z0⟩ := HX.out w2 hw2; have HW2 : Hid (RdR w0 w2 s2) := hw2; clear hw2)
        | (go_at_call 68; refine (HFail.out s2 _ HW2.out).mono ?_; rintro e w3 ⟨rfl, hw3, hk3⟩))
      go_ret
      exact ⟨rfl, hw3, hk2.trans hk3⟩
end Go.Proofs.YtaooidckmepdeaaDoor
