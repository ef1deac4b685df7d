/- Km Sp Dc -/
import Derived.Test.YtaooidckmepdeaaGreatDoorSkc
import Derived.Deep.MidRow
namespace Go.Proofs.YtaooidckmepdeaaGreatDoor
set_option linter.unusedSimpArgs false
set_option linter.unusedVariables false
open Go.RowKit
/-- All stays, but for block B. -/
structure KeepB (B : Nat) (w w' : World) : Prop where
  size : w.heap.size ≤ w'.heap.size
  blk : ∀ x, x ≠ B → x < w.heap.size → w'.heap[x]? = w.heap[x]?
theorem KeepB.refl (B : Nat) (w : World) : KeepB B w w := ⟨Nat.le_refl _, fun _ _ _ => rfl⟩
theorem KeepB.trans {B : Nat} {w w1 w2 : World} (h : KeepB B w w1) (k : KeepB B w1 w2) : KeepB B w w2 :=
  ⟨Nat.le_trans h.size k.size, fun x hx hl => (k.blk x hx (Nat.lt_of_lt_of_le hl h.size)).trans (h.blk x hx hl)⟩
theorem KeepB.of_below {B : Nat} {w w' : World} (h : Below w.heap.size w w') : KeepB B w w' := ⟨h.size, fun x _ hl => h.block x hl⟩
theorem KeepB.setCell (B off : Nat) (w : World) (v : Value) : KeepB B w (w.setCell ⟨B, off, none⟩ v) :=
  ⟨by simp [World.setCell], fun x hx _ => heap_setCell_other w ⟨B, off, none⟩ x v hx⟩
theorem KeepB.box {B x : Nat} {w w' : World} {o : Obj} (k : KeepB B w w') (h : w.heap[x]? = some o) (hx : x ≠ B) : w'.heap[x]? = some o := (k.blk x hx (Array.getElem?_eq_some_iff.1 h).1).trans h
def lft (st : Ls) : List Nat := st.getD []
/-- The reader's box lies behind w0: what is left, or that it is bad. -/
structure RdR (w0 w : World) (st : Ls) : Prop where
  box : ∃ a cap, w.heap[w0.heap.size]? = some (.cells #[.slice a (lft st).length cap, .bool st.isNone] 54 (0, 0)) ∧ Row w0 a (lft st) ∧ (lft st).length ≤ cap ∧ cap ≤ maxLen ∧ (a = none → cap = 0) ∧ (lft st).length ≤ 1000000000000
  bel : Below w0.heap.size w0 w
theorem RdR.below {w0 w w' : World} {st : Ls} (h : RdR w0 w st) (hb : Below w.heap.size w w') : RdR w0 w' st := by
  obtain ⟨a, cap, hx, r⟩ := h.box
  exact ⟨⟨a, cap, (hb.block _ (Array.getElem?_eq_some_iff.1 hx).1).trans hx, r⟩, h.bel.trans (hb.mono h.bel.size)⟩
theorem RdR.byt {w0 w : World} {st : Ls} (h : RdR w0 w st) : Byt (lft st) := by
  obtain ⟨a, cap, _, hr, _⟩ := h.box
  intro c hc
  obtain ⟨i, hi, rfl⟩ := List.getElem_of_mem hc
  have := hr.lt i
  simpa [List.getD, hi] using this
/-- What a method of the reader leaves. -/
def RP (w0 w : World) (v : Value) (st : Ls) (e : Ending) (w' : World) : Prop := e = .returned v ∧ RdR w0 w' st ∧ KeepB w0.heap.size w w'
theorem RdR.fail {w0 w : World} {st : Ls} (h : RdR w0 w st) : RdR w0 ((w.setCell ⟨w0.heap.size, 0, none⟩ (.slice none 0 0)).setCell ⟨w0.heap.size, 1, none⟩ (.bool true)) none ∧ KeepB w0.heap.size w ((w.setCell ⟨w0.heap.size, 0, none⟩ (.slice none 0 0)).setCell ⟨w0.heap.size, 1, none⟩ (.bool true)) := by
  obtain ⟨a, cap, hx, _⟩ := h.box
  refine ⟨⟨⟨none, 0, ?_, Row.nil _ _, Nat.le_refl _, by decide, fun _ => rfl, by simp [lft]⟩, (h.bel.setCell (p := ⟨w0.heap.size, 0, none⟩) (Nat.le_refl _) _).setCell (p := ⟨w0.heap.size, 1, none⟩) (Nat.le_refl _) _⟩, (KeepB.setCell _ _ _ _).trans (KeepB.setCell _ _ _ _)⟩
  rw [setCell_heap (by rw [setCell_heap hx])]
  rfl
set_option maxRecDepth 100000 in
theorem rfail_any (w0 w : World) (st : Ls) (h : RdR w0 w st) : Calls Tryz.prog 53 #[.pointer (some ⟨w0.heap.size, 0, none⟩)] w (RP w0 w (.tuple #[]) none) := by
  have HF : Hid _ := h.fail
  obtain ⟨a, cap, hx, _⟩ := h.box
  have c0 := (box_at hx 0).1
  have c1 := (box_at hx 1).1
  have f0 := (box_at hx 0).2
  have f1 := (box_at hx 1).2
  simp only [List.getElem?_toArray, List.getElem?_cons_zero, List.getElem?_cons_succ] at c0 c1
  clear hx h
  go_enter Tryz.func53, Tryz.ntmps53
  go_wp2_with fail
  go_end0
  exact ⟨rfl, HF.out.1, HF.out.2⟩
theorem get_no (a : Option Addr) (cap len : Nat) (p size : Int) (big : Bool) (w : World) (hl : len ≤ maxLen) (hf : fitsB len p size = false) :
    Calls Tryz.prog 52 #[.slice a len cap, .int .i64 p, .int .i64 size, .bool big] w fun e w' => e = .returned (.tuple #[.int .u64 0, .bool false]) ∧ w' = w := by
  go_enter Tryz.func52, Tryz.ntmps52
  go_wp2_with (go_at_call 82; refine (fits_any _ _ _ _ _ _ hl).mono ?_; rintro e w' ⟨rfl, rfl⟩; rw [hf])
  go_ret2
  exact ⟨rfl, rfl⟩
theorem run_cut (w : World) (a : Option Addr) (len cap n : Nat) (Z : Int) (hZ : Z = n) (h : n ≤ len) : (Instr.slice 22 (.slice a len cap) (some (.int .i64 Z)) none none).run Tryz.prog w = .ok (.slice (cutA a cap n) (len - n) (cap - n)) w := by
  subst hZ
  exact run_slice_from w a len cap n .i64 h
theorem cut_none {a : Option Addr} {cap n : Nat} (h : a = none → cap = 0) (hn : n ≤ cap) : cutA a cap n = none → cap - n = 0 := by
  intro e
  unfold cutA at e
  split at e
  · omega
  · cases a with
    | none => have := h rfl; omega
    | some x => simp at e
theorem RdR.cut {w0 w : World} {l : List Nat} {a : Option Addr} {cap n : Nat} {b : Bool} {v : Value} (hb : Below w0.heap.size w0 w) (hx : w.heap[w0.heap.size]? = some (.cells #[v, .bool false] 54 (0, 0))) (hr : Row w0 a l) (hl : l.length ≤ cap) (hc : cap ≤ maxLen) (hn : a = none → cap = 0) (hn2 : n ≤ l.length) (hbig : l.length ≤ 1000000000000) :
    RdR w0 (w.setCell ⟨w0.heap.size, 0, none⟩ (.slice (cutA a cap n) (l.length - n) (cap - n))) (some (l.drop n)) ∧ KeepB w0.heap.size w (w.setCell ⟨w0.heap.size, 0, none⟩ (.slice (cutA a cap n) (l.length - n) (cap - n))) := by
  refine ⟨⟨⟨cutA a cap n, cap - n, ?_, row_cut cap n hr hl, by simp [lft]; omega, by omega, cut_none hn (by omega), by simp [lft]; omega⟩, hb.setCell (p := ⟨w0.heap.size, 0, none⟩) (Nat.le_refl _) _⟩, KeepB.setCell _ _ _ _⟩
  rw [setCell_heap hx]
  simp [lft]
set_option maxHeartbeats 400000 in
set_option maxRecDepth 100000 in
theorem rget_any (w0 w : World) (st : Ls) (n : Nat) (Z : Int) (hZ : Z = n) (hn1 : 1 ≤ n) (hn8 : n ≤ 8) (h : RdR w0 w st) : Calls Tryz.prog 38 #[.pointer (some ⟨w0.heap.size, 0, none⟩), .int .i64 Z] w (RP w0 w (.int .u64 ((gN n st).1 : Nat)) (gN n st).2) := by
  have HFail : Hid (∀ x, RdR w0 x st → Calls Tryz.prog 53 #[.pointer (some ⟨w0.heap.size, 0, none⟩)] x (RP w0 x (.tuple #[]) none)) := fun x hx => rfail_any w0 x st hx
  obtain ⟨a, cap, hx, hr, hl, hc, hn, hbig⟩ := h.box
  have HR : Hid (RdR w0 w st) := h
  by_cases hle : n ≤ (lft st).length
  · obtain ⟨l, rfl⟩ : ∃ l, st = some l := by
      cases st with
      | none => simp [lft] at hle; omega
      | some l => exact ⟨l, rfl⟩
    have e1 : gN n (some l) = (getV l 0 n true, some (l.drop n)) := by unfold gN; simp only; rw [if_pos (show n ≤ l.length from hle)]
    rw [e1]
    simp only [lft, Option.getD_some, Option.isNone_some] at *
    have HG : Hid (Calls Tryz.prog 52 #[.slice a l.length cap, .int .i64 0, .int .i64 Z, .bool true] w fun e w' => e = .returned (.tuple #[.int .u64 ((getV l 0 n true : Nat) : Int), .bool true]) ∧ w' = w) := by
      subst hZ
      exact get_yes a cap l 0 n true w (hr.below h.bel) (by omega) hn1 hn8 (by omega)
    have ks := fun y => run_cut y a l.length cap n Z hZ hle
    have HC : Hid _ := RdR.cut (n := n) (b := false) h.bel hx hr hl hc hn hle hbig
    have c0 := (box_at hx 0).1
    have c1 := (box_at hx 1).1
    have f0 := (box_at hx 0).2
    simp only [List.getElem?_toArray, List.getElem?_cons_zero, List.getElem?_cons_succ] at c0 c1
    clear hx hr h e1 HFail HR hZ
    generalize getV l 0 n true = V at *
    go_enter Tryz.func38, Tryz.ntmps38
    go_wp2_with (go_at_call 52; refine Calls.mono HG.out ?_; rintro e w1 ⟨rfl, rfl⟩)
    go_ret
    exact ⟨rfl, HC.out.1, HC.out.2⟩
  · have e1 : gN n st = (0, none) := by
      cases st with
      | none => rfl
      | some l => unfold gN; simp only; rw [if_neg (by simpa [lft] using hle)]
    rw [e1]
    have HG : Hid (Calls Tryz.prog 52 #[.slice a (lft st).length cap, .int .i64 0, .int .i64 Z, .bool true] w fun e w' => e = .returned (.tuple #[.int .u64 0, .bool false]) ∧ w' = w) :=
      get_no a cap _ 0 Z true w (by omega) (by simp [fitsB]; omega)
    have c0 := (box_at hx 0).1
    simp only [List.getElem?_toArray, List.getElem?_cons_zero] at c0
    clear hx hr h e1 hZ hle
    generalize (lft st).length = N at *
    go_enter Tryz.func38, Tryz.ntmps38
    go_wp2_with (first
      | (go_at_call 52; refine Calls.mono HG.out ?_; rintro e w1 ⟨rfl, rfl⟩)
      | (go_at_call 53; refine (HFail.out _ HR.out).mono ?_; rintro e w2 ⟨rfl, hw2, hk2⟩))
    go_ret
    exact ⟨rfl, hw2, hk2⟩
theorem gN_lt (n : Nat) (st : Ls) (h : Byt (lft st)) : (gN n st).1 < 256 ^ n := by
  cases st with
  | none => exact Nat.pow_pos (by decide)
  | some l =>
    unfold gN
    simp only
    split
    · exact getV_lt l 0 n (Byt.getD h)
    · exact Nat.pow_pos (by decide)
set_option maxRecDepth 100000 in
theorem rnat_any (w0 w : World) (st : Ls) (n : Nat) (Z : Int) (hZ : Z = n) (hn1 : 1 ≤ n) (hn4 : n ≤ 4) (h : RdR w0 w st) : Calls Tryz.prog 17 #[.pointer (some ⟨w0.heap.size, 0, none⟩), .int .i64 Z] w (RP w0 w (.int .i64 ((gN n st).1 : Nat)) (gN n st).2) := by
  have HG : Hid _ := rget_any w0 w st n Z hZ hn1 (by omega) h
  have hlt : (gN n st).1 < 4294967296 := Nat.lt_of_lt_of_le (gN_lt n st h.byt) (Nat.le_trans (Nat.pow_le_pow_right (by decide) hn4) (by decide))
  clear h hZ
  generalize (gN n st).1 = V at *
  generalize (gN n st).2 = s2 at *
  have hw : wrap64 (V : Int) = (V : Int) := by unfold wrap64; omega
  go_enter Tryz.func17, Tryz.ntmps17
  go_wp2_with (go_at_call 38; refine Calls.mono HG.out ?_; rintro e w2 ⟨rfl, hw2, hk2⟩)
  go_ret
  exact ⟨by first | rfl | (simp only [hw]; rfl), hw2, hk2⟩
theorem wrap_iv (V : Nat) (h : V < 18446744073709551616) : wrap64 (V : Int) = iv V := by
  unfold wrap64 iv
  split <;> omega
set_option maxRecDepth 100000 in
theorem rnum_any (w0 w : World) (st : Ls) (h : RdR w0 w st) : Calls Tryz.prog 55 #[.pointer (some ⟨w0.heap.size, 0, none⟩)] w (RP w0 w (.int .i64 (gI st).1) (gI st).2) := by
  have HG : Hid _ := rget_any w0 w st 8 8 rfl (by decide) (by decide) h
  have hlt : (gN 8 st).1 < 18446744073709551616 := gN_lt 8 st h.byt
  unfold gI
  clear h
  have hv := wrap_iv _ hlt
  generalize (gN 8 st).1 = V at *
  generalize (gN 8 st).2 = s2 at *
  generalize iv V = v at *
  go_enter Tryz.func55, Tryz.ntmps55
  go_wp2_with (go_at_call 38; refine Calls.mono HG.out ?_; rintro e w2 ⟨rfl, hw2, hk2⟩)
  go_ret
  exact ⟨by first | rfl | (simp only [hv]; rfl), hw2, hk2⟩
set_option maxRecDepth 100000 in
theorem rup_any (w0 w : World) (st : Ls) (most : Nat) (Z M : Int) (hZ : Z = 1) (hM : M = most) (hm : most ≤ 255) (h : RdR w0 w st) : Calls Tryz.prog 56 #[.pointer (some ⟨w0.heap.size, 0, none⟩), .int .i64 Z, .int .i64 M] w (RP w0 w (.int .i64 ((gUp 1 most st).1 : Nat)) (gUp 1 most st).2) := by
  have HG : Hid _ := rnat_any w0 w st 1 Z hZ (by decide) (by decide) h
  have HFail : Hid (∀ x, RdR w0 x (gN 1 st).2 → Calls Tryz.prog 53 #[.pointer (some ⟨w0.heap.size, 0, none⟩)] x (RP w0 x (.tuple #[]) none)) := fun x hx => rfail_any w0 x _ hx
  have hlt : (gN 1 st).1 < 256 := gN_lt 1 st h.byt
  by_cases hgt : most < (gN 1 st).1
  · have e1 : gUp 1 most st = (0, none) := by unfold gUp; rw [if_pos hgt]
    rw [e1]
    clear h hZ e1
    generalize (gN 1 st).1 = V at *
    generalize (gN 1 st).2 = s2 at *
    have hg : M < (V : Int) := by omega
    clear hM
    go_enter Tryz.func56, Tryz.ntmps56
    go_wp2_with (first
      | (go_at_call 17; refine Calls.mono HG.out ?_; rintro e w2 ⟨rfl, hw2, hk2⟩)
      | (go_at_call 53; refine (HFail.out _ hw2).mono ?_; rintro e w3 ⟨rfl, hw3, hk3⟩))
    go_ret
    exact ⟨rfl, hw3, hk2.trans hk3⟩
  · have e1 : gUp 1 most st = gN 1 st := by unfold gUp; rw [if_neg hgt]
    rw [e1]
    clear h hZ e1 HFail
    generalize (gN 1 st).1 = V at *
    generalize (gN 1 st).2 = s2 at *
    have hg : (V : Int) ≤ M := by omega
    clear hM
    go_enter Tryz.func56, Tryz.ntmps56
    go_wp2_with (go_at_call 17; refine Calls.mono HG.out ?_; rintro e w2 ⟨rfl, hw2, hk2⟩)
    go_ret
    exact ⟨rfl, hw2, hk2⟩
theorem run_slice_to (w : World) (a : Option Addr) (len cap n : Nat) (h : n ≤ len) (h2 : len ≤ cap) : (Instr.slice 22 (.slice a len cap) none (some (.int .i64 (n : Int))) none).run Tryz.prog w = .ok (.slice a n cap) w := by
  have hs : (sizeOf 5).run Tryz.prog w = .ok 1 w := by
    obtain ⟨i, hi, e⟩ := Option.map_eq_some_iff.1 Tryz.info5s
    simp [sizeOf, typeInfo, hi, e]
  have h3 : (0 : Int) ≤ (n : Int) ∧ (n : Int) ≤ (cap : Int) := by omega
  have hle : n ≤ cap := by omega
  have ha : ∀ ad : Addr, ad.add 0 = ad := fun ad => by
    obtain ⟨b, o, s⟩ := ad
    cases s <;> simp [Addr.add]
  cases a with
  | none => simp [Instr.slice, run_underlying Tryz.underlying22, Instr.sliceBounds, Instr.sliceBound, asIntOf, h3, hs, hle]
  | some ad =>
    by_cases h0 : cap = 0
    · obtain rfl : n = 0 := by omega
      subst h0
      simp [Instr.slice, run_underlying Tryz.underlying22, Instr.sliceBounds, Instr.sliceBound, asIntOf, hs, ha]
    · simp [Instr.slice, run_underlying Tryz.underlying22, Instr.sliceBounds, Instr.sliceBound, asIntOf, h3, hs, hle, h0, ha]
set_option maxHeartbeats 400000 in
set_option maxRecDepth 100000 in
theorem qtext_any (w0 w : World) (st : Ls) (h : RdR w0 w st) : Calls Tryz.prog 57 #[.pointer (some ⟨w0.heap.size, 0, none⟩)] w (RP w0 w (.string (gT st).1) (gT st).2) := by
  have HG : Hid _ := rnat_any w0 w st 2 2 rfl (by decide) (by decide) h
  have hlt : (gN 2 st).1 < 65536 := gN_lt 2 st h.byt
  have HFail : Hid (∀ s x, RdR w0 x s → Calls Tryz.prog 53 #[.pointer (some ⟨w0.heap.size, 0, none⟩)] x (RP w0 x (.tuple #[]) none)) := fun s x hx => rfail_any w0 x s hx
  have HZ : Hid ((gN 2 st).2 = none → (gN 2 st).1 = 0) := by
    intro e
    cases st with
    | none => rfl
    | some l =>
      unfold gN at e ⊢
      simp only at e ⊢
      split at e
      · cases e
      · rename_i hq; rw [if_neg hq]
  unfold gT
  cases hg : gN 2 st with
  | mk V s2 =>
    rw [hg] at HG hlt HZ
    simp only at HG hlt HZ
    clear h hg
    by_cases hle : V ≤ (lft s2).length
    · have e1 : gB (V, s2) = (strN ((lft s2).take V), if s2 = none then none else some ((lft s2).drop V)) := by
        cases s2 with
        | none => obtain rfl := HZ.out rfl; rfl
        | some l1 => simp only [gB, lft, Option.getD_some]; rw [if_pos (show V ≤ l1.length from hle)]; simp
      rw [e1]
      have HX : Hid (∀ x, RdR w0 x s2 → ∃ a cap, x.cell? ⟨w0.heap.size, 0, none⟩ = some (.slice a (lft s2).length cap) ∧ x.frozen? ⟨w0.heap.size, 0, none⟩ = false ∧ (Instr.slice 22 (.slice a (lft s2).length cap) none (some (.int .i64 (V : Int))) none).run Tryz.prog x = .ok (.slice a V cap) x ∧ (Instr.slice 22 (.slice a (lft s2).length cap) (some (.int .i64 (V : Int))) none none).run Tryz.prog x = .ok (.slice (cutA a cap V) ((lft s2).length - V) (cap - V)) x ∧ (convert 22 9 (.slice a V cap)).run Tryz.prog x = .ok (.string (strN ((lft s2).take V))) x ∧ Hid (RdR w0 (x.setCell ⟨w0.heap.size, 0, none⟩ (.slice (cutA a cap V) ((lft s2).length - V) (cap - V))) (if s2 = none then none else some ((lft s2).drop V)) ∧ KeepB w0.heap.size x (x.setCell ⟨w0.heap.size, 0, none⟩ (.slice (cutA a cap V) ((lft s2).length - V) (cap - V))))) := by
        intro x hx
        obtain ⟨a, cap, hbx, hr, hl, hc, hn, hbig⟩ := hx.box
        refine ⟨a, cap, (box_at hbx 0).1, (box_at hbx 0).2, run_slice_to x a _ cap V hle hl, run_cut x a _ cap V V rfl hle, conv_take cap (hr.below hx.bel) (Nat.not_lt.2 hle), ?_⟩
        cases s2 with
        | none =>
          obtain rfl := HZ.out rfl
          simp only [lft, Option.getD_none, List.length_nil, Option.isNone_none, if_true, Nat.sub_zero] at *
          refine ⟨⟨⟨cutA a cap 0, cap, ?_, ?_, by simp [lft], hc, ?_, by simp [lft]⟩, hx.bel.setCell (p := ⟨w0.heap.size, 0, none⟩) (Nat.le_refl _) _⟩, KeepB.setCell _ _ _ _⟩
          · rw [setCell_heap hbx]; rfl
          · exact fun i hi => by simp [lft] at hi
          · intro e
            have := cut_none hn (Nat.zero_le _) e
            omega
        | some l1 =>
          simp only [lft, Option.getD_some, reduceCtorEq, if_false, Option.isNone_some] at *
          exact RdR.cut (b := false) hx.bel hbx hr hl hc hn hle hbig
      have hleI : (V : Int) ≤ ((lft s2).length : Int) := by omega
      clear HFail HZ e1 hle
      generalize (if s2 = none then none else some ((lft s2).drop V)) = s3 at *
      generalize strN ((lft s2).take V) = S at *
      have HX2 := HX
      clear HX
      have HX : Hid _ := HX2
      clear HX2
      obtain ⟨LL, HLL⟩ : ∃ LL, Hid ((lft s2).length = LL) := ⟨_, rfl⟩
      rw [HLL.out] at HX hleI
      go_enter Tryz.func57, Tryz.ntmps57
      go_wp2_with (go_at_call 17; refine Calls.mono HG.out ?_; rintro e w2 ⟨rfl, hw2, hk2⟩; obtain ⟨a2, cap2, z0, z1, z2, z3, z4, z5⟩ := HX.out w2 hw2; clear hw2)
      go_ret
      exact ⟨rfl, z5.out.1, hk2.trans z5.out.2⟩
    · have e1 : gB (V, s2) = (⟨#[]⟩, none) := by
        cases s2 with
        | none => rfl
        | some l1 => simp only [gB]; rw [if_neg (by simpa [lft] using hle)]
      rw [e1]
      have HX : Hid (∀ x, RdR w0 x s2 → ∃ a cap, x.cell? ⟨w0.heap.size, 0, none⟩ = some (.slice a (lft s2).length cap)) := by
        intro x hx
        obtain ⟨a, cap, hbx, _⟩ := hx.box
        exact ⟨a, cap, (box_at hbx 0).1⟩
      have hltI : ((lft s2).length : Int) < (V : Int) := by omega
      clear hle e1 HZ
      generalize (lft s2).length = LL at *
      go_enter Tryz.func57, Tryz.ntmps57
      go_wp2_with (first
        | (go_at_call 17; refine Calls.mono HG.out ?_; rintro e w2 ⟨rfl, hw2, hk2⟩; obtain ⟨a2, cap2, z0⟩ := HX.out w2 hw2; have HW2 : Hid (RdR w0 w2 s2) := hw2; clear hw2)
        | (go_at_call 53; refine (HFail.out s2 _ HW2.out).mono ?_; rintro e w3 ⟨rfl, hw3, hk3⟩))
      go_ret
      exact ⟨rfl, hw3, hk2.trans hk3⟩
end Go.Proofs.YtaooidckmepdeaaGreatDoor
namespace Go.Proofs.YtaooidckmepdeaaGreatDoor
set_option linter.unusedSimpArgs false
set_option linter.unusedVariables false
open Go.RowKit
theorem rbox_cells {y : World} {D : Nat} {rk : Bool} {rkk : ByteArray} {rv : Bool} {rvv : ByteArray} {rt ro : Int} (h : y.heap[D]? = some (.cells #[.bool rk, .string rkk, .bool rv, .string rvv, .int .i64 rt, .int .i64 ro] 84 (0, 0))) :
    y.cell? ⟨D, 0, none⟩ = some (.bool rk) ∧ y.cell? ⟨D, 1, none⟩ = some (.string rkk) ∧ y.cell? ⟨D, 2, none⟩ = some (.bool rv) ∧ y.cell? ⟨D, 3, none⟩ = some (.string rvv) ∧ y.cell? ⟨D, 4, none⟩ = some (.int .i64 rt) ∧ y.cell? ⟨D, 5, none⟩ = some (.int .i64 ro) := by
  have hc : ∀ j, y.cell? ⟨D, j, none⟩ = _ := fun j => cell_of_row _ D j _ 84 (0, 0) h
  exact ⟨by rw [hc]; rfl, by rw [hc]; rfl, by rw [hc]; rfl, by rw [hc]; rfl, by rw [hc]; rfl, by rw [hc]; rfl⟩
theorem rrow_new0 (w : World) (r : Rc) : RRow (w.alloc (.cells r.cells 84)) (some ⟨w.heap.size, 0, none⟩) [r] := by
  have hc : ∀ j, (w.alloc (.cells r.cells 84)).cell? ⟨w.heap.size, j, none⟩ = r.cells[j]? := fun j => cell_of_row _ w.heap.size j r.cells 84 (0, 0) (heap_alloc_new w _)
  intro i hi
  obtain rfl : i = 0 := by simpa using hi
  exact ⟨w.heap.size, 0, rfl, hc 0, hc 1, hc 2, hc 3, hc 4, hc 5⟩
theorem rest_len (l : List Nat) (f : Int) (k : Nat) (h : AllOk l f k) : (rest l f k).length + k ≤ l.length := by
  induction k with
  | zero => exact Nat.le_refl _
  | succ k ih =>
    have h1 := ih (fun j hj => h j (by omega))
    have ho := h k (by omega)
    have h2 := p4_len (rest l f k)
    have h0 : 0 < (rest l f k).length := by
      unfold okD gate at ho
      simp only [Bool.and_eq_true, decide_eq_true_eq] at ho
      exact ho.1.1.1.2
    have hd : decN (rest l f k) f = (rest l f k).length - (p4 (rest l f k)).length := by unfold decN; rw [if_pos ho]
    show ((rest l f k).drop _).length + (k + 1) ≤ _
    rw [List.length_drop, hd]
    omega
theorem own_base {w : World} {B n k c : Nat} {va : Option Addr} {xs : List Value} (h : w.ownsRow B 84 6 (.slice va k c) n xs) : ∀ g, va = some g → B ≤ g.block := by
  intro g hg
  subst hg
  rcases h.2 with ⟨e, _⟩ | ⟨g', cap', cur, e, hB, _⟩
  · cases e
  · injection e with e1
    injection e1 with e1
    rw [e1]
    exact hB
theorem own_ne {w w4 : World} {B n : Nat} {v : Value} {xs : List Value} (h : w.ownsRow B 84 6 v n xs) (hs : w.heap.size ≤ w4.heap.size) : v.ownBlock ≠ some w4.heap.size := by
  intro c
  have := (h.lt _ c).2
  omega
/-- Where split stands behind k records. -/
structure SpS (w : World) (l : List Nat) (f : Int) (k : Nat) (p v : Value) (x : World) : Prop where
  own : x.ownsRow w.heap.size 84 6 v k (rcv (recs l f k))
  row : ∃ a c, p = .slice a (rest l f k).length c ∧ Row w a (rest l f k) ∧ (rest l f k).length ≤ c ∧ c ≤ maxLen
  ok : AllOk l f k
  bel : Below w.heap.size w x
set_option maxHeartbeats 1600000 in
set_option maxRecDepth 100000 in
theorem split_any (a : Option Addr) (cap : Nat) (l : List Nat) (cnt : Nat) (first : Int) (w : World) (hr : Row w a l) (hl : l.length ≤ cap) (hc : cap ≤ maxLen) (hl2 : l.length ≤ 10000) (hcn : cnt ≤ 4294967295) :
    Calls Tryz.prog 98 #[.slice a l.length cap, .int .i64 cnt, .int .i64 first] w fun e w' => (AllOk l first cnt → ∃ a' c', e = .returned (.tuple #[.slice a' cnt c', .bool (decide (rest l first cnt = []))]) ∧ RRow w' a' (recs l first cnt) ∧ (a' = none → c' = 0) ∧ (∀ g, a' = some g → w.heap.size ≤ g.block)) ∧ (¬ AllOk l first cnt → e = .returned (.tuple #[.slice none 0 0, .bool false])) ∧ Below w.heap.size w w' := by
  have HDE : Hid (∀ x a c q, Row x a q → q.length ≤ c → c ≤ maxLen → Calls Tryz.prog 109 #[.slice a q.length c, .int .i64 first] x fun e w' => e = .returned (.tuple #[.agg (decR q first).cells, .int .i64 ((decN q first : Nat) : Int), .int .i64 (decE q first)]) ∧ Below x.heap.size x w') := fun x a c q h1 h2 h3 => decode_any a c q first x h1 h2 h3
  have HS0 : Hid (SpS w l first 0 (.slice a l.length cap) (.slice none 0 0) w) := ⟨World.ownsRow_nil _ _ _ _, ⟨a, cap, rfl, hr, hl, hc⟩, fun k hk => by omega, Below.refl _ _⟩
  clear hr hl hc
  obtain ⟨db, HDB⟩ : ∃ db, Hid (decide (rest l first cnt = []) = db) := ⟨_, rfl⟩
  rw [HDB.out]
  go_enter Tryz.func98, Tryz.ntmps98
  go_wp2_with fail
  go_loopw [0, 6, 12] (fun p v i x => ∃ k : Nat, k ≤ cnt ∧ i = .int .i64 k ∧ SpS w l first k p v x) (fun _ _ i _ => cnt - (intOf i).toNat)
  case atStart => exact ⟨0, by omega, rfl, HS0.out⟩
  case round =>
    clear HS0
    obtain ⟨k, hk, rfl, hS⟩ := hrel
    obtain ⟨hown, ⟨pa, pc, rfl, hrow, hpl, hpm⟩, hok, hbel⟩ := hS
    obtain ⟨va, vc, rfl, hvr, hvn, hvl, hvm⟩ := owns_rrow (rs := recs l first k) (by rw [recs_len]; exact hown)
    have hvb : ∀ g, va = some g → w.heap.size ≤ g.block := own_base hown
    have HVB : Hid _ := hvb
    clear hvb
    rw [recs_len] at hvl hown ⊢
    by_cases hlt : k < cnt
    · have hltI : (k : Int) < (cnt : Int) := by omega
      by_cases ho : okD (rest l first k) first = true
      · have hE : decE (rest l first k) first = 0 := by unfold decE; rw [if_pos ho]
        have hR : decR (rest l first k) first = rcOf (rest l first k) first := by unfold decR; rw [if_pos ho]
        have hN : decN (rest l first k) first ≤ (rest l first k).length := by unfold decN; rw [if_pos ho]; omega
        have HD1 := HDE.out
        have HDX : Hid (∀ x, Row x pa (rest l first k) → Calls Tryz.prog 109 #[.slice pa (rest l first k).length pc, .int .i64 first] x fun e w' => e = .returned (.tuple #[.agg (rcOf (rest l first k) first).cells, .int .i64 ((decN (rest l first k) first : Nat) : Int), .int .i64 0]) ∧ Below x.heap.size x w') := by
          intro x hx
          have := HD1 x pa pc _ hx hpl hpm
          rw [hE, hR] at this
          exact this
        have HRS : Hid (rest l first (k + 1) = (rest l first k).drop (decN (rest l first k) first)) := rfl
        have HRC : Hid (recs l first (k + 1) = recs l first k ++ [rcOf (rest l first k) first]) := recs_succ l first k
        have HAO : Hid (AllOk l first (k + 1)) := by
          intro j hj
          by_cases hjk : j = k
          · subst hjk; exact ho
          · exact hok j (by omega)
        have hkl : k ≤ 10000 := by have := rest_len l first k hok; omega
        clear HD1 HDE hE hR ho hok
        generalize rest l first k = q at *
        generalize recs l first k = R at *
        generalize rcOf q first = r at *
        generalize decN q first = n at *
        obtain ⟨rk, rkk, rv, rvv, rt, ro⟩ := r
        simp only [Rc.cells] at HDX
        have hnI : (n : Int) ≤ (q.length : Int) := by omega
        have ks : ∀ w', (Instr.slice 22 (.slice pa q.length pc) (some (.int .i64 (n : Int))) none none).run Tryz.prog w' = .ok (.slice (cutA pa pc n) (q.length - n) (pc - n)) w' := fun w' => run_slice_from w' pa q.length pc n .i64 hN
        have HROW : Hid (Row wr pa q) := hrow.below hbel
        have HRW0 : Hid (Row w pa q) := hrow
        clear hrow hvr
        go_wp2_with (go_at_call 109; refine (HDX.out _ HROW.out).mono ?_; rintro e w4 ⟨rfl, hb4⟩; have HB4 : Hid (Below w.heap.size w w4) := hbel.trans (hb4.mono hbel.size); have HO4 : Hid (w4.ownsRow w.heap.size 84 6 (.slice va k vc) k (rcv R)) := owns_below hown hb4; have HVD : Hid ((Value.slice va k vc).ownBlock ≠ some w4.heap.size) := own_ne hown hb4.size; obtain ⟨D, HD⟩ : ∃ D, Hid (w4.heap.size = D) := ⟨_, rfl⟩)
        rw [HD.out]
        have hS0 : (fun y : World => y.heap[D]? = some (.cells #[.bool rk, .string rkk, .bool rv, .string rvv, .int .i64 rt, .int .i64 ro] 84 (0, 0)) ∧ Below w.heap.size w y) (w4.alloc (.cells #[.bool rk, .string rkk, .bool rv, .string rvv, .int .i64 rt, .int .i64 ro] 84)).drew := ⟨HD.out ▸ heap_alloc_new w4 _, (HB4.out.alloc HB4.out.size _).drew⟩
        refine wp_region_lat (fun y : World => y.heap[D]? = some (.cells #[.bool rk, .string rkk, .bool rv, .string rvv, .int .i64 rt, .int .i64 ro] 84 (0, 0)) ∧ Below w.heap.size w y) 8 (by kernel_rfl) hS0 (fun hHeld => ?_)
        clear hS0
        refine lat_take 0 (v := ?_) rfl (by kernel_rfl) (by kernel_rfl) (by kernel_rfl) (by kernel_rfl) (fun _ _ _ h => h) (by rfl) ?_ (by assumption) ?_
        rotate_left
        · (intro w hSw; obtain ⟨q0, q1, q2, q3, q4, q5⟩ := rbox_cells hSw.1; go_simp <;> with_reducible rfl)
        try simp only [Act.put, List.setIfInBounds_toArray, List.set_cons_zero, List.set_cons_succ]
        refine lat_take 1 (v := ?_) rfl (by kernel_rfl) (by kernel_rfl) (by kernel_rfl) (by kernel_rfl) (fun _ _ _ h => h) (by rfl) ?_ (by assumption) ?_
        rotate_left
        · (intro w hSw; obtain ⟨q0, q1, q2, q3, q4, q5⟩ := rbox_cells hSw.1; go_simp <;> with_reducible rfl)
        try simp only [Act.put, List.setIfInBounds_toArray, List.set_cons_zero, List.set_cons_succ]
        refine lat_take 4 (v := ?_) rfl (by kernel_rfl) (by kernel_rfl) (by kernel_rfl) (by kernel_rfl) (fun _ _ _ h => h) (by rfl) ?_ (by assumption) ?_
        rotate_left
        · (intro w hSw; obtain ⟨q0, q1, q2, q3, q4, q5⟩ := rbox_cells hSw.1; go_simp <;> with_reducible rfl)
        try simp only [Act.put, List.setIfInBounds_toArray, List.set_cons_zero, List.set_cons_succ]
        refine lat_take 5 (v := ?_) rfl (by kernel_rfl) (by kernel_rfl) (by kernel_rfl) (by kernel_rfl) (fun _ _ _ h => h) (by rfl) ?_ (by assumption) ?_
        rotate_left
        · (intro w hSw; obtain ⟨q0, q1, q2, q3, q4, q5⟩ := rbox_cells hSw.1; go_simp <;> with_reducible rfl)
        try simp only [Act.put, List.setIfInBounds_toArray, List.set_cons_zero, List.set_cons_succ]
        refine lat_take 6 (v := ?_) rfl (by kernel_rfl) (by kernel_rfl) (by kernel_rfl) (by kernel_rfl) (fun _ _ _ h => h) (by rfl) ?_ (by assumption) ?_
        rotate_left
        · (intro w hSw; obtain ⟨q0, q1, q2, q3, q4, q5⟩ := rbox_cells hSw.1; go_simp <;> with_reducible rfl)
        try simp only [Act.put, List.setIfInBounds_toArray, List.set_cons_zero, List.set_cons_succ]
        refine lat_one 2 rfl (by kernel_rfl) (by decide) (by rfl) (fun K hK => ?_)
        go_simp
        try dsimp only
        obtain ⟨Y, HY⟩ : ∃ Y, Hid (((w4.alloc (.cells #[.bool rk, .string rkk, .bool rv, .string rvv, .int .i64 rt, .int .i64 ro] 84)).alloc (.cells #[.bool rk, .string rkk, .bool rv, .string rvv, .int .i64 rt, .int .i64 ro] 84)).drew = Y) := ⟨_, rfl⟩
        have hY4 : Below w4.heap.size w4 Y := by rw [← HY.out]; exact ((below_box _).trans ((below_box _).mono (by simp))).drew
        have hYS : (fun y : World => y.heap[D]? = some (.cells #[.bool rk, .string rkk, .bool rv, .string rvv, .int .i64 rt, .int .i64 ro] 84 (0, 0)) ∧ Below w.heap.size w y) Y := by
          rw [← HY.out]
          refine ⟨?_, ((HB4.out.alloc HB4.out.size _).trans ((below_box _).mono (by have := HB4.out.size; simp; omega))).drew⟩
          show ((w4.alloc (.cells #[.bool rk, .string rkk, .bool rv, .string rvv, .int .i64 rt, .int .i64 ro] 84)).alloc (.cells #[.bool rk, .string rkk, .bool rv, .string rvv, .int .i64 rt, .int .i64 ro] 84)).heap[D]? = _
          rw [(below_box (w := w4.alloc (.cells #[.bool rk, .string rkk, .bool rv, .string rvv, .int .i64 rt, .int .i64 ro] 84)) _).block D (by rw [← HD.out]; simp)]
          exact HD.out ▸ heap_alloc_new w4 _
        have hYR : RRow Y (some ⟨w4.heap.size + 1, 0, none⟩) [⟨rk, rkk, rv, rvv, rt, ro⟩] := by
          have h2 := rrow_new0 (w4.alloc (.cells #[.bool rk, .string rkk, .bool rv, .string rvv, .int .i64 rt, .int .i64 ro] 84)) ⟨rk, rkk, rv, rvv, rt, ro⟩
          rw [show (w4.alloc (.cells #[.bool rk, .string rkk, .bool rv, .string rvv, .int .i64 rt, .int .i64 ro] 84)).heap.size = w4.heap.size + 1 by simp] at h2
          rw [← HY.out]
          exact RRow.below h2 ((Below.refl _ _).drew)
        have hYB : Below w.heap.size w Y := hYS.2
        have hYO : Y.ownsRow w.heap.size 84 6 (.slice va k vc) k (rcv R) := owns_below HO4.out hY4
        have hYD : D < Y.heap.size := (Array.getElem?_eq_some_iff.1 hYS.1).1
        rw [show ((w4.alloc (.cells #[.bool rk, .string rkk, .bool rv, .string rvv, .int .i64 rt, .int .i64 ro] 84)).alloc (.cells #[.bool rk, .string rkk, .bool rv, .string rvv, .int .i64 rt, .int .i64 ro] 84)).drew = Y from HY.out]
        refine hK.out _ _ hYS (fun hSZ => ?_)
        clear hK hHeld hYS
        try simp only [Act.put, List.setIfInBounds_toArray, List.set_cons_zero, List.set_cons_succ]
        refine lat_one 3 rfl (by kernel_rfl) (by decide) (by rfl) (fun K hK => ?_)
        refine wp_append_recs _ _ rfl w.heap.size w _ _ _ rfl hYO hYB hYB.size _ 1 [⟨rk, rkk, rv, rvv, rt, ro⟩] rfl hYR (by simp; omega) ?_
        intro v5 w5 hown5 hb5 hg5
        have hS5 : (fun y : World => y.heap[D]? = some (.cells #[.bool rk, .string rkk, .bool rv, .string rvv, .int .i64 rt, .int .i64 ro] 84 (0, 0)) ∧ Below w.heap.size w y) w5 := ⟨(hg5.block D hYD (by intro c; exact HVD.out (by rw [HD.out]; exact c.symm))).trans hSZ.1, hb5⟩
        refine hK.out _ _ hS5 (fun hS6 => ?_)
        clear hK hSZ hYO hYR
        try simp only [Act.put, List.setIfInBounds_toArray, List.set_cons_zero, List.set_cons_succ]
        refine lat_one 7 rfl (by kernel_rfl) (by decide) (by rfl) (fun K hK => ?_)
        go_simp
        try dsimp only
        refine hK.out _ _ hS6 (fun hS7 => ?_)
        clear hK
        try simp only [Act.put, List.setIfInBounds_toArray, List.set_cons_zero, List.set_cons_succ]
        refine lat_last 8 rfl (by kernel_rfl) (by decide) (by kernel_rfl) (by rfl) (fun K hK => ?_)
        go_simp
        try dsimp only
        refine hK.out _ _ ?_
        clear hK
        try simp only [Act.put, List.setIfInBounds_toArray, List.set_cons_zero, List.set_cons_succ]
        go_wp2
        rw [show k + [(⟨rk, rkk, rv, rvv, rt, ro⟩ : Rc)].length = k + 1 from rfl, ← rcv_app] at hown5
        refine ⟨⟨k + 1, by omega, by go_num, ?_, ⟨cutA pa pc n, pc - n, ?_, ?_, ?_, by omega⟩, HAO.out, hb5⟩, by simp [intOf]; omega⟩
        · rw [HRC.out]; exact hown5
        · rw [HRS.out, List.length_drop]
        · rw [HRS.out]; exact row_cut pc n HRW0.out hpl
        · rw [HRS.out, List.length_drop]; omega
      · have ho' : okD (rest l first k) first = false := by simpa using ho
        have hE : decE (rest l first k) first = 10 := by unfold decE; rw [ho']; rfl
        have hR : decR (rest l first k) first = rz := by unfold decR; rw [ho']; rfl
        have hN : decN (rest l first k) first = 0 := by unfold decN; rw [ho']; rfl
        have HNO : Hid (¬ AllOk l first cnt) := fun h => by rw [h k hlt] at ho'; cases ho'
        have HD1 := HDE.out
        have HDX : Hid (∀ x, Row x pa (rest l first k) → Calls Tryz.prog 109 #[.slice pa (rest l first k).length pc, .int .i64 first] x fun e w' => e = .returned (.tuple #[.agg rz.cells, .int .i64 0, .int .i64 10]) ∧ Below x.heap.size x w') := by
          intro x hx
          have := HD1 x pa pc _ hx hpl hpm
          rw [hE, hR, hN] at this
          exact this
        have HROW : Hid (Row wr pa (rest l first k)) := hrow.below hbel
        have HBW : Hid (Below w.heap.size w wr) := hbel
        clear HD1 HDE hE hR hN ho ho' hok hrow hvr hown hbel
        generalize rest l first k = q at *
        simp only [Rc.cells, rz] at HDX
        go_wp2_with (go_at_call 109; refine (HDX.out _ HROW.out).mono ?_; rintro e w4 ⟨rfl, hb4⟩; have HB4 : Hid (Below w.heap.size w w4) := HBW.out.trans (hb4.mono HBW.out.size))
        go_ret2
        exact ⟨fun h => absurd h HNO.out, fun _ => rfl, HB4.out.alloc HB4.out.size _⟩
    · obtain rfl : k = cnt := by omega
      have HOK : Hid (AllOk l first k) := hok
      have HVR : Hid (RRow wr va (recs l first k)) := hvr
      have HBW : Hid (Below w.heap.size w wr) := hbel
      have hz : (((rest l first k).length : Int) == 0) = db := by
        rw [← HDB.out]
        cases rest l first k with
        | nil => rfl
        | cons x t => simp; omega
      clear HDE hok hrow hvr hown hbel
      generalize rest l first k = q at *
      go_wp2_with fail
      go_ret2
      refine ⟨fun _ => ⟨va, vc, ?_, HVR.out, hvn, HVB.out⟩, fun h => absurd HOK.out h, HBW.out⟩
      first | rfl | (rw [hz])
end Go.Proofs.YtaooidckmepdeaaGreatDoor
namespace Go.Proofs.YtaooidckmepdeaaGreatDoor
set_option linter.unusedSimpArgs false
set_option linter.unusedVariables false
open Go.RowKit
theorem getV_take (l : List Nat) (p n k : Nat) (h : p + n ≤ k) : getV (l.take k) p n true = getV l p n true := by
  unfold getV
  apply sm_congr
  intro j hj
  simp only [plc, if_true, List.getD, List.getElem?_take]
  rw [if_pos (by omega)]
/-- The result's box, the head's array. -/
structure DcS (w : World) (h : List Nat) (x : World) : Prop where
  res : x.heap[w.heap.size]? = some (.cells #[.int .i64 0, .int .i64 0, .int .i64 0, .int .i64 0, .slice none 0 0] 88 (0, 0))
  arr : x.heap[w.heap.size + 1]? = some (.cells (cv h).toArray 171 (0, 0))
  bel : Below w.heap.size w x
theorem DcS.below {w x y : World} {h : List Nat} (s : DcS w h x) (hb : Below x.heap.size x y) : DcS w h y :=
  ⟨(hb.block _ (Array.getElem?_eq_some_iff.1 s.res).1).trans s.res, (hb.block _ (Array.getElem?_eq_some_iff.1 s.arr).1).trans s.arr, s.bel.trans (hb.mono s.bel.size)⟩
theorem DcS.new (w : World) (h : List Nat) : DcS w h ((w.alloc (.cells #[.int .i64 0, .int .i64 0, .int .i64 0, .int .i64 0, .slice none 0 0] 88)).alloc (.cells (cv h).toArray 171)) := by
  have b1 : Below w.heap.size w (w.alloc (.cells #[.int .i64 0, .int .i64 0, .int .i64 0, .int .i64 0, .slice none 0 0] 88)) := below_box _
  refine ⟨?_, ?_, b1.alloc b1.size _⟩
  · rw [(below_box (w := w.alloc (.cells #[.int .i64 0, .int .i64 0, .int .i64 0, .int .i64 0, .slice none 0 0] 88)) _).block w.heap.size (by simp)]
    exact heap_alloc_new w _
  · have := heap_alloc_new (w.alloc (.cells #[.int .i64 0, .int .i64 0, .int .i64 0, .int .i64 0, .slice none 0 0] 88)) (.cells (cv h).toArray 171)
    simpa using this
theorem DcS.load {w x : World} {h : List Nat} (s : DcS w h x) (hl : (cv h).toArray.size = 48) : (loadVar 171 ⟨w.heap.size + 1, 0, none⟩).run Tryz.prog x = .ok (.agg (cv h).toArray) x :=
  run_loadVar_row (P := Tryz.prog) x (w.heap.size + 1) 171 171 (cv h).toArray (0, 0) _ s.arr Tryz.underlying171 rfl (by rw [hl]; exact Tryz.info171)
theorem results_bat3 {fn : Func} {p u u2 : Tmp} (h : fn.results = #[.cell p 88, .tmp u, .tmp u2]) (tmps : Array Value) (w : World) (g : Nat) (cs : Array Value) (v v2 : Value) (hp : tmps.getD p undef = .pointer (some ⟨g, 0, none⟩)) (hv : tmps.getD u undef = v) (hv2 : tmps.getD u2 undef = v2) (hi : cs.size = 5) (hg : w.heap[g]? = some (.cells cs 88 (0, 0))) :
    (results fn tmps).run Tryz.prog w = .ok (.tuple #[.agg cs, v, v2]) w := by
  have h2 := run_loadVar_row (P := Tryz.prog) w g 88 88 cs (0, 0) _ hg Tryz.underlying88 rfl (by rw [hi]; exact Tryz.info88)
  subst hv
  subst hv2
  rw [results_three h, hp]
  simp [asAddr, h2, Result.andThen]
theorem dcr_cells {x : World} {R : Nat} {c0 c1 c2 c3 : Int} {a : Option Addr} {n c : Nat} (h : x.heap[R]? = some (.cells #[.int .i64 c0, .int .i64 c1, .int .i64 c2, .int .i64 c3, .slice a n c] 88 (0, 0))) :
    x.cell? ⟨R, 0, none⟩ = some (.int .i64 c0) ∧ x.cell? ⟨R, 1, none⟩ = some (.int .i64 c1) ∧ x.cell? ⟨R, 2, none⟩ = some (.int .i64 c2) ∧ x.cell? ⟨R, 3, none⟩ = some (.int .i64 c3) ∧ x.cell? ⟨R, 4, none⟩ = some (.slice a n c) ∧ R < x.heap.size := by
  have hc : ∀ j, x.cell? ⟨R, j, none⟩ = _ := fun j => cell_of_row _ R j _ 88 (0, 0) h
  exact ⟨by rw [hc]; rfl, by rw [hc]; rfl, by rw [hc]; rfl, by rw [hc]; rfl, by rw [hc]; rfl, (Array.getElem?_eq_some_iff.1 h).1⟩
theorem RRow.keepR {w : World} {a : Option Addr} {R : Nat} {rs : List Rc} {cs : Array Value} (h : RRow w a rs) (hg : ∀ g, a = some g → g.block ≠ R) : RRow (w.setRow R cs) a rs := by
  intro i hi
  obtain ⟨b, off, e, h0, h1, h2, h3, h4, h5⟩ := h i hi
  have hbM : b ≠ R := hg _ e
  exact ⟨b, off, e, (cell_setRow_ne hbM).trans h0, (cell_setRow_ne hbM).trans h1, (cell_setRow_ne hbM).trans h2, (cell_setRow_ne hbM).trans h3, (cell_setRow_ne hbM).trans h4, (cell_setRow_ne hbM).trans h5⟩
theorem DcS.range {w x : World} {h : List Nat} (s : DcS w h x) : x.rangeAt (w.heap.size + 1) 0 (cv h) := by
  intro j v hj
  rw [cell_of_row x (w.heap.size + 1) (0 + j) (cv h).toArray 171 (0, 0) s.arr]
  simpa using hj
theorem lat_load {P : Program} {L : List Oper} {Q : Exit → Act → World → Prop} {md : Region.Mode} {S : World → Prop} {n : Nat} (i : Nat) {o : Oper} {r : List Oper} {f : Nat} {l : Array Bool} {a : Act} {w : World} (hi : L.drop i = o :: r) (hsel : Region.noSelect L.toArray = true)
    (hs : (Region.sinkB md L.toArray n && Region.chainB md L.toArray n && decide (n < L.toArray.size) && decide (i < n)) = true) (hf : Region.free md L.toArray l i = true) (hr : (Region.ready md L.toArray l).contains i = true)
    (hQ : ∀ cs c a w, Q (.panic c) (a.put o.dst (.agg cs)) w → Q (.panic c) a w) (hw : Region.wanted o (yielded L.toArray a.tmps) = true)
    (ty : TypeId) (x : Operand) (ho : o.op = .load ty x) (b off : Nat) (hx : a.eval x = .pointer (some ⟨b, off, none⟩)) (cs : List Value) (d : TypeDesc) (hc : ∀ y, S y → y.rangeAt b off cs) (hu : P.underlying ty = some d) (hd : d.isRow = true) (hi2 : (P.info? ty).map (·.size) = some cs.length) (hS : S w)
    (h : LatI P md L.toArray Q S n f (l.setIfInBounds i true) (a.put o.dst (.agg cs.toArray)) w) : LatI P md L.toArray Q S n (f + 1) l a w :=
  LatI.take (lat_at hi) hsel hs hf hr (hQ _) (yieldsIf_load_mid hw ty x ho b off hx cs d hc hu hd hi2) hS h
theorem run_slice_two (w : World) (a : Option Addr) (len cap i n : Nat) (h : i ≤ n) (h2 : n ≤ cap) : (Instr.slice 22 (.slice a len cap) (some (.int .i64 (i : Int))) (some (.int .i64 (n : Int))) none).run Tryz.prog w = .ok (.slice (cutA a cap i) (n - i) (cap - i)) w := by
  have hs : (sizeOf 5).run Tryz.prog w = .ok 1 w := by
    obtain ⟨i, hi, e⟩ := Option.map_eq_some_iff.1 Tryz.info5s
    simp [sizeOf, typeInfo, hi, e]
  have h1 : (0 : Int) ≤ (i : Int) ∧ (i : Int) ≤ (n : Int) := by omega
  have h3 : (0 : Int) ≤ (n : Int) ∧ (n : Int) ≤ (cap : Int) := by omega
  simp [Instr.slice, run_underlying Tryz.underlying22, Instr.sliceBounds, Instr.sliceBound, asIntOf, h1, h3, hs, cutA]
  rw [if_pos h2, if_pos h]
theorem row_two {w : World} {a : Option Addr} {l : List Nat} (cap i n : Nat) (hr : Row w a l) (hl : l.length ≤ cap) : Row w (cutA a cap i) ((l.take n).drop i) := by
  by_cases h : n ≤ l.length
  · exact row_cut cap i (row_take n hr) (by rw [List.length_take]; omega)
  · rw [List.take_of_length_le (by omega)]
    exact row_cut cap i hr hl
theorem run_slice_head (w : World) (ad : Addr) (len cap : Nat) (h : 48 ≤ cap) : (Instr.slice 22 (.slice (some ad) len cap) none (some (.int .i64 48)) none).run Tryz.prog w = .ok (.slice (some ad) 48 cap) w := by
  have hs : (sizeOf 5).run Tryz.prog w = .ok 1 w := by
    obtain ⟨i, hi, e⟩ := Option.map_eq_some_iff.1 Tryz.info5s
    simp [sizeOf, typeInfo, hi, e]
  have h3 : (0 : Int) ≤ 48 ∧ (48 : Int) ≤ (cap : Int) := by omega
  simp [Instr.slice, run_underlying Tryz.underlying22, Instr.sliceBounds, Instr.sliceBound, asIntOf, h3, hs]
  first | omega | (rw [if_pos h]; simp [Addr.add]) | simp [h, Addr.add]
theorem run_arrayAt (w : World) (ad : Addr) (cap : Nat) : (Instr.arrayAt 171 (.slice (some ad) 48 cap)).run Tryz.prog w = .ok (.pointer (some ad)) w := by
  simp [Instr.arrayAt, run_underlying Tryz.underlying171]
theorem row_range {w : World} {b off : Nat} {l : List Nat} (hr : Row w (some ⟨b, off, none⟩) l) (k : Nat) : w.rangeAt b off (cv (l.take k)) := by
  intro j v hj
  have := row_news (row_take k hr) j v hj
  rwa [Addr.add_lit] at this
theorem DcS.made (w : World) (h : List Nat) : DcS w h (((w.alloc (.cells #[.int .i64 0, .int .i64 0, .int .i64 0, .int .i64 0, .slice none 0 0] 88)).alloc (.cells #[.int .u8 0, .int .u8 0, .int .u8 0, .int .u8 0, .int .u8 0, .int .u8 0, .int .u8 0, .int .u8 0, .int .u8 0, .int .u8 0, .int .u8 0, .int .u8 0, .int .u8 0, .int .u8 0, .int .u8 0, .int .u8 0, .int .u8 0, .int .u8 0, .int .u8 0, .int .u8 0, .int .u8 0, .int .u8 0, .int .u8 0, .int .u8 0, .int .u8 0, .int .u8 0, .int .u8 0, .int .u8 0, .int .u8 0, .int .u8 0, .int .u8 0, .int .u8 0, .int .u8 0, .int .u8 0, .int .u8 0, .int .u8 0, .int .u8 0, .int .u8 0, .int .u8 0, .int .u8 0, .int .u8 0, .int .u8 0, .int .u8 0, .int .u8 0, .int .u8 0, .int .u8 0, .int .u8 0, .int .u8 0] 171)).setRow (w.heap.size + 1) (cv h).toArray) := by
  have b1 : Below w.heap.size w (w.alloc (.cells #[.int .i64 0, .int .i64 0, .int .i64 0, .int .i64 0, .slice none 0 0] 88)) := below_box _
  have b2 : Below w.heap.size w ((w.alloc (.cells #[.int .i64 0, .int .i64 0, .int .i64 0, .int .i64 0, .slice none 0 0] 88)).alloc (.cells #[.int .u8 0, .int .u8 0, .int .u8 0, .int .u8 0, .int .u8 0, .int .u8 0, .int .u8 0, .int .u8 0, .int .u8 0, .int .u8 0, .int .u8 0, .int .u8 0, .int .u8 0, .int .u8 0, .int .u8 0, .int .u8 0, .int .u8 0, .int .u8 0, .int .u8 0, .int .u8 0, .int .u8 0, .int .u8 0, .int .u8 0, .int .u8 0, .int .u8 0, .int .u8 0, .int .u8 0, .int .u8 0, .int .u8 0, .int .u8 0, .int .u8 0, .int .u8 0, .int .u8 0, .int .u8 0, .int .u8 0, .int .u8 0, .int .u8 0, .int .u8 0, .int .u8 0, .int .u8 0, .int .u8 0, .int .u8 0, .int .u8 0, .int .u8 0, .int .u8 0, .int .u8 0, .int .u8 0, .int .u8 0] 171)) := b1.alloc b1.size _
  have hn : ((w.alloc (.cells #[.int .i64 0, .int .i64 0, .int .i64 0, .int .i64 0, .slice none 0 0] 88)).alloc (.cells #[.int .u8 0, .int .u8 0, .int .u8 0, .int .u8 0, .int .u8 0, .int .u8 0, .int .u8 0, .int .u8 0, .int .u8 0, .int .u8 0, .int .u8 0, .int .u8 0, .int .u8 0, .int .u8 0, .int .u8 0, .int .u8 0, .int .u8 0, .int .u8 0, .int .u8 0, .int .u8 0, .int .u8 0, .int .u8 0, .int .u8 0, .int .u8 0, .int .u8 0, .int .u8 0, .int .u8 0, .int .u8 0, .int .u8 0, .int .u8 0, .int .u8 0, .int .u8 0, .int .u8 0, .int .u8 0, .int .u8 0, .int .u8 0, .int .u8 0, .int .u8 0, .int .u8 0, .int .u8 0, .int .u8 0, .int .u8 0, .int .u8 0, .int .u8 0, .int .u8 0, .int .u8 0, .int .u8 0, .int .u8 0] 171)).heap[w.heap.size + 1]? = some (.cells #[.int .u8 0, .int .u8 0, .int .u8 0, .int .u8 0, .int .u8 0, .int .u8 0, .int .u8 0, .int .u8 0, .int .u8 0, .int .u8 0, .int .u8 0, .int .u8 0, .int .u8 0, .int .u8 0, .int .u8 0, .int .u8 0, .int .u8 0, .int .u8 0, .int .u8 0, .int .u8 0, .int .u8 0, .int .u8 0, .int .u8 0, .int .u8 0, .int .u8 0, .int .u8 0, .int .u8 0, .int .u8 0, .int .u8 0, .int .u8 0, .int .u8 0, .int .u8 0, .int .u8 0, .int .u8 0, .int .u8 0, .int .u8 0, .int .u8 0, .int .u8 0, .int .u8 0, .int .u8 0, .int .u8 0, .int .u8 0, .int .u8 0, .int .u8 0, .int .u8 0, .int .u8 0, .int .u8 0, .int .u8 0] 171 (0, 0)) := by
    have := heap_alloc_new (w.alloc (.cells #[.int .i64 0, .int .i64 0, .int .i64 0, .int .i64 0, .slice none 0 0] 88)) (.cells #[.int .u8 0, .int .u8 0, .int .u8 0, .int .u8 0, .int .u8 0, .int .u8 0, .int .u8 0, .int .u8 0, .int .u8 0, .int .u8 0, .int .u8 0, .int .u8 0, .int .u8 0, .int .u8 0, .int .u8 0, .int .u8 0, .int .u8 0, .int .u8 0, .int .u8 0, .int .u8 0, .int .u8 0, .int .u8 0, .int .u8 0, .int .u8 0, .int .u8 0, .int .u8 0, .int .u8 0, .int .u8 0, .int .u8 0, .int .u8 0, .int .u8 0, .int .u8 0, .int .u8 0, .int .u8 0, .int .u8 0, .int .u8 0, .int .u8 0, .int .u8 0, .int .u8 0, .int .u8 0, .int .u8 0, .int .u8 0, .int .u8 0, .int .u8 0, .int .u8 0, .int .u8 0, .int .u8 0, .int .u8 0] 171)
    simpa using this
  refine ⟨?_, setRow_heap _ _ _ _ _ _ hn, below_setRow b2 (by omega) _⟩
  rw [setRow_other _ _ _ _ (by omega), (below_box (w := w.alloc (.cells #[.int .i64 0, .int .i64 0, .int .i64 0, .int .i64 0, .slice none 0 0] 88)) _).block w.heap.size (by simp)]
  exact heap_alloc_new w _
theorem dc_zero (w : World) : ((w.alloc (.cells #[.int .i64 0, .int .i64 0, .int .i64 0, .int .i64 0, .slice none 0 0] 88)).alloc (.cells #[.int .u8 0, .int .u8 0, .int .u8 0, .int .u8 0, .int .u8 0, .int .u8 0, .int .u8 0, .int .u8 0, .int .u8 0, .int .u8 0, .int .u8 0, .int .u8 0, .int .u8 0, .int .u8 0, .int .u8 0, .int .u8 0, .int .u8 0, .int .u8 0, .int .u8 0, .int .u8 0, .int .u8 0, .int .u8 0, .int .u8 0, .int .u8 0, .int .u8 0, .int .u8 0, .int .u8 0, .int .u8 0, .int .u8 0, .int .u8 0, .int .u8 0, .int .u8 0, .int .u8 0, .int .u8 0, .int .u8 0, .int .u8 0, .int .u8 0, .int .u8 0, .int .u8 0, .int .u8 0, .int .u8 0, .int .u8 0, .int .u8 0, .int .u8 0, .int .u8 0, .int .u8 0, .int .u8 0, .int .u8 0] 171)).heap[w.heap.size + 1]? = some (.cells #[.int .u8 0, .int .u8 0, .int .u8 0, .int .u8 0, .int .u8 0, .int .u8 0, .int .u8 0, .int .u8 0, .int .u8 0, .int .u8 0, .int .u8 0, .int .u8 0, .int .u8 0, .int .u8 0, .int .u8 0, .int .u8 0, .int .u8 0, .int .u8 0, .int .u8 0, .int .u8 0, .int .u8 0, .int .u8 0, .int .u8 0, .int .u8 0, .int .u8 0, .int .u8 0, .int .u8 0, .int .u8 0, .int .u8 0, .int .u8 0, .int .u8 0, .int .u8 0, .int .u8 0, .int .u8 0, .int .u8 0, .int .u8 0, .int .u8 0, .int .u8 0, .int .u8 0, .int .u8 0, .int .u8 0, .int .u8 0, .int .u8 0, .int .u8 0, .int .u8 0, .int .u8 0, .int .u8 0, .int .u8 0] 171 (0, 0)) := by
  have := heap_alloc_new (w.alloc (.cells #[.int .i64 0, .int .i64 0, .int .i64 0, .int .i64 0, .slice none 0 0] 88)) (.cells #[.int .u8 0, .int .u8 0, .int .u8 0, .int .u8 0, .int .u8 0, .int .u8 0, .int .u8 0, .int .u8 0, .int .u8 0, .int .u8 0, .int .u8 0, .int .u8 0, .int .u8 0, .int .u8 0, .int .u8 0, .int .u8 0, .int .u8 0, .int .u8 0, .int .u8 0, .int .u8 0, .int .u8 0, .int .u8 0, .int .u8 0, .int .u8 0, .int .u8 0, .int .u8 0, .int .u8 0, .int .u8 0, .int .u8 0, .int .u8 0, .int .u8 0, .int .u8 0, .int .u8 0, .int .u8 0, .int .u8 0, .int .u8 0, .int .u8 0, .int .u8 0, .int .u8 0, .int .u8 0, .int .u8 0, .int .u8 0, .int .u8 0, .int .u8 0, .int .u8 0, .int .u8 0, .int .u8 0, .int .u8 0] 171)
  simpa using this
set_option maxHeartbeats 1600000 in
set_option maxRecDepth 100000 in
theorem bdecode_short (a : Option Addr) (cap : Nat) (l : List Nat) (w : World) (ht : Tab w) (hr : Row w a l) (hl : l.length ≤ cap) (hc : cap ≤ maxLen) (hl2 : l.length ≤ 1000000000000) (h48 : l.length < 48) :
    Calls Tryz.prog 84 #[.slice a l.length cap] w fun e w' => (OkB l → ∃ a' c', e = .returned (.tuple #[bav (bOf l) a' c', .int .i64 ((lenN l : Nat) : Int), .int .i64 0]) ∧ RRow w' a' (bOf l).rs ∧ (a' = none → c' = 0) ∧ (∀ g, a' = some g → w.heap.size ≤ g.block)) ∧ (¬ OkB l → e = .returned (.tuple #[bav bz none 0, .int .i64 0, .int .i64 10])) ∧ Below w.heap.size w w' := by
  have HNO : Hid (¬ OkB l) := fun h => by have := h.l48; omega
  obtain ⟨n, HN⟩ : ∃ n, Hid (l.length = n) := ⟨_, rfl⟩
  have hnI : (n : Int) < 48 := by have := HN.out; omega
  rw [HN.out]
  obtain ⟨PO, HPO⟩ : ∃ PO : Ending → World → Prop, Hid (∀ e w', (e = .returned (.tuple #[bav bz none 0, .int .i64 0, .int .i64 10]) ∧ Below w.heap.size w w') → PO e w') ∧ Hid (PO = fun e w' => (OkB l → ∃ a' c', e = .returned (.tuple #[bav (bOf l) a' c', .int .i64 ((lenN l : Nat) : Int), .int .i64 0]) ∧ RRow w' a' (bOf l).rs ∧ (a' = none → c' = 0) ∧ (∀ g, a' = some g → w.heap.size ≤ g.block)) ∧ (¬ OkB l → e = .returned (.tuple #[bav bz none 0, .int .i64 0, .int .i64 10])) ∧ Below w.heap.size w w') := ⟨_, fun e w' h => ⟨fun q => absurd q HNO.out, fun _ => h.1, h.2⟩, rfl⟩
  rw [← HPO.2.out]
  have HP1 := HPO.1
  clear HPO HNO hr
  have HZ : Hid ((w.alloc (.cells #[.int .i64 0, .int .i64 0, .int .i64 0, .int .i64 0, .slice none 0 0] 88)).heap[w.heap.size]? = some (.cells #[.int .i64 0, .int .i64 0, .int .i64 0, .int .i64 0, .slice none 0 0] 88 (0, 0))) := heap_alloc_new w _
  go_enter Tryz.func84, Tryz.ntmps84
  go_wp2_with (have _t := HZ; refine wpList_store_row rfl 88 _ _ rfl w.heap.size #[.int .i64 0, .int .i64 0, .int .i64 0, .int .i64 0, .slice none 0 0] rfl rfl 88 _ HZ.out Tryz.info88 rfl (bat_one _ _ _ _ _ _ _) ?_)
  refine bodyPost_ret (v := .tuple #[.agg #[.int .i64 0, .int .i64 0, .int .i64 0, .int .i64 0, .slice none 0 0], .int .i64 0, .int .i64 10]) ?_ rfl (HP1.out _ _ ⟨rfl, below_setRow (below_box _) (Nat.le_refl _) _⟩)
  exact results_bat3 (p := 2) (u := 3) (u2 := 4) (by rfl) _ _ w.heap.size _ _ _ (by rfl) (by rfl) (by rfl) rfl (setRow_heap _ _ _ _ _ _ HZ.out)
set_option maxHeartbeats 1600000 in
set_option maxRecDepth 100000 in
theorem bdecode_size (a : Option Addr) (cap : Nat) (l : List Nat) (w : World) (ht : Tab w) (hr : Row w a l) (hl : l.length ≤ cap) (hc : cap ≤ maxLen) (hl2 : l.length ≤ 1000000000000) (h48 : 48 ≤ l.length) (hsz : lenN l < 48 ∨ l.length < lenN l ∨ 6000 < lenN l) :
    Calls Tryz.prog 84 #[.slice a l.length cap] w fun e w' => (OkB l → ∃ a' c', e = .returned (.tuple #[bav (bOf l) a' c', .int .i64 ((lenN l : Nat) : Int), .int .i64 0]) ∧ RRow w' a' (bOf l).rs ∧ (a' = none → c' = 0) ∧ (∀ g, a' = some g → w.heap.size ≤ g.block)) ∧ (¬ OkB l → e = .returned (.tuple #[bav bz none 0, .int .i64 0, .int .i64 10])) ∧ Below w.heap.size w w' := by
  have h0 : 0 < l.length := by omega
  obtain ⟨pb, poff, rfl, hc0, _⟩ := hr 0 h0
  have hpb : pb < w.heap.size := by have := World.block_lt_of_cell? _ _ hc0; simpa using this
  clear hc0
  have hmem := mem_lt (fun i => hr.lt i)
  have hgl := fun i n => getV_lt l i n (fun j => hr.lt j)
  obtain ⟨PO, HPO⟩ : ∃ PO : Ending → World → Prop, Hid (PO = fun e w' => (OkB l → ∃ a' c', e = .returned (.tuple #[bav (bOf l) a' c', .int .i64 ((lenN l : Nat) : Int), .int .i64 0]) ∧ RRow w' a' (bOf l).rs ∧ (a' = none → c' = 0) ∧ (∀ g, a' = some g → w.heap.size ≤ g.block)) ∧ (¬ OkB l → e = .returned (.tuple #[bav bz none 0, .int .i64 0, .int .i64 10])) ∧ Below w.heap.size w w') := ⟨_, rfl⟩
  have HPB : Hid (¬ OkB l → ∀ e w', (e = .returned (.tuple #[.agg #[.int .i64 0, .int .i64 0, .int .i64 0, .int .i64 0, .slice none 0 0], .int .i64 0, .int .i64 10]) ∧ Below w.heap.size w w') → PO e w') := fun hn e w' h => by rw [HPO.out]; exact ⟨fun q => absurd q hn, fun _ => h.1, h.2⟩
  have HPG : Hid (OkB l → ∀ e w', (∃ a' c', e = .returned (.tuple #[bav (bOf l) a' c', .int .i64 ((lenN l : Nat) : Int), .int .i64 0]) ∧ RRow w' a' (bOf l).rs ∧ (a' = none → c' = 0) ∧ (∀ g, a' = some g → w.heap.size ≤ g.block)) → Below w.heap.size w w' → PO e w') := fun hy e w' h hb => by rw [HPO.out]; exact ⟨fun _ => h, fun q => absurd hy q, hb⟩
  rw [← HPO.out]
  clear HPO
  obtain ⟨h, HHD⟩ : ∃ h, Hid (l.take 48 = h) := ⟨_, rfl⟩
  have hh48 : h.length = 48 := by rw [← HHD.out, List.length_take]; omega
  have HRG : Hid (∀ y, Below w.heap.size w y → y.rangeAt pb poff (cv h)) := fun y hb => by rw [← HHD.out]; exact row_range (hr.below hb) 48
  have HCL : Hid ((cv h).length = 48) := by show _ = _; rw [cv_length, hh48]
  have HSZ : Hid ((cv h).toArray.size = 48) := arr_size HCL.out
  have HLD : Hid (∀ y, DcS w h y → (loadVar 171 ⟨w.heap.size + 1, 0, none⟩).run Tryz.prog y = .ok (.agg (cv h).toArray) y) := fun y hy => DcS.load hy HSZ.out
  have hhm : ∀ i, h.getD i 0 < 256 := by rw [← HHD.out]; exact lt_mem (fun x hx => hmem x (List.mem_of_mem_take hx))
  have num4 : ∀ i : Nat, i + 4 ≤ 48 → ∀ x, Calls Tryz.prog 96 #[.agg (cv h).toArray, .int .i64 (i : Int), .int .i64 4] x fun e w' => e = .returned (.int .i64 ((getV l i 4 true : Nat) : Int)) ∧ Below x.heap.size x w' := by
    intro i hi x
    have h2 := number_in h i 4 x hh48 hhm (by decide) (by decide) hi
    rw [← HHD.out, getV_take l i 4 48 hi, HHD.out] at h2
    have h3 := hgl i 4
    rw [w64 _ (by omega) (by omega)] at h2
    exact h2
  have num8 : ∀ i : Nat, i + 8 ≤ 48 → ∀ x, Calls Tryz.prog 96 #[.agg (cv h).toArray, .int .i64 (i : Int), .int .i64 8] x fun e w' => e = .returned (.int .i64 (wrap64 (getV l i 8 true))) ∧ Below x.heap.size x w' := by
    intro i hi x
    have h2 := number_in h i 8 x hh48 hhm (by decide) (by decide) hi
    rw [← HHD.out, getV_take l i 8 48 hi, HHD.out] at h2
    exact h2
  have HN0 : Hid _ := num8 0 (by decide)
  have HN1 : Hid _ := num4 8 (by decide)
  have HN2 : Hid _ := num4 12 (by decide)
  have HN3 : Hid _ := num8 16 (by decide)
  have HN4 : Hid _ := num8 24 (by decide)
  have HN5 : Hid _ := num4 32 (by decide)
  have HN6 : Hid _ := num4 36 (by decide)
  have HN7 : Hid _ := num8 40 (by decide)
  have hx1 := hgl 8 4
  have hx6 := hgl 36 4
  have hx2 := hgl 12 4
  have hLN : lenN l = 12 + getV l 8 4 true := rfl
  have HOK : Hid (OkB l → 48 ≤ lenN l ∧ lenN l ≤ l.length ∧ lenN l ≤ 6000 ∧ P.sum ((l.take (lenN l)).drop 16) = getV l 12 4 true) := fun h => ⟨h.n48, h.nl, h.nm, h.sum⟩
  have HCT : Hid (cntOf l = getV l 36 4 true ∧ frsOf l = wrap64 (getV l 40 8 true)) := ⟨rfl, rfl⟩
  have HBO : Hid (∀ rs, recs (partOf l) (frsOf l) (cntOf l) = rs → bOf l = ⟨wrap64 (getV l 0 8 true), getV l 32 4 true, wrap64 (getV l 16 8 true), wrap64 (getV l 24 8 true), rs⟩) := fun rs h => by unfold bOf; rw [h]
  clear hgl num4 num8
  generalize getV l 0 8 true = X0 at *
  generalize getV l 8 4 true = X1 at *
  generalize hX2V : getV l 12 4 true = X2 at *
  have HX2V : Hid (getV l 12 4 true = X2) := hX2V
  clear hX2V
  generalize getV l 16 8 true = X3 at *
  generalize getV l 24 8 true = X4 at *
  generalize getV l 32 4 true = X5 at *
  generalize getV l 36 4 true = X6 at *
  generalize getV l 40 8 true = X7 at *
  generalize wrap64 (X0 : Int) = B0 at *
  generalize wrap64 (X3 : Int) = B3 at *
  generalize wrap64 (X4 : Int) = B4 at *
  generalize wrap64 (X7 : Int) = B7 at *
  obtain ⟨NN, HNN⟩ : ∃ NN, Hid (lenN l = NN) := ⟨_, rfl⟩
  rw [HNN.out] at hLN HOK HPG hsz
  have hwN : IntKind.i64.wrap (12 + (X1 : Int)) = (NN : Int) := by rw [IntKind.wrap_i64]; omega
  have HNI : Hid ((12 : Int) + (X1 : Int) = (NN : Int)) := by show _ = _; omega
  have HIC : Hid ((Tryz.prog.info? 171).map (·.size) = some (cv h).length) := by show _ = _; rw [HCL.out]; exact Tryz.info171
  have ks0 := fun y => run_slice_head y ⟨pb, poff, none⟩ l.length cap (by omega)
  have ka := fun y => run_arrayAt y ⟨pb, poff, none⟩ cap
  have hlI : ¬ (l.length : Int) < 48 := by omega
  have tokA : True := trivial
  have HROW : Hid (Row w (some ⟨pb, poff, none⟩) l) := hr
  have HT : Hid (Tab w) := ht
  clear hr ht hh48 hhm hLN
  by_cases g1 : NN < 48
  · have g1I : (NN : Int) < 48 := by omega
    have HNO : Hid (¬ OkB l) := fun q => by have := (HOK.out q).1; omega
    as_aux_lemma =>
      go_enter Tryz.func84, Tryz.ntmps84
      go_wp2_with (first
        | (have _t := tokA; refine wpList_load_mid rfl 171 _ rfl pb poff rfl (cv h) _ (HRG.out _ (below_box _)) Tryz.underlying171 rfl (by rw [HCL.out]; exact Tryz.info171) ?_)
        | (have _t := tokA; refine wpList_store_row rfl 171 _ _ rfl (w.heap.size + 1) (cv h).toArray rfl rfl 171 #[.int .u8 0, .int .u8 0, .int .u8 0, .int .u8 0, .int .u8 0, .int .u8 0, .int .u8 0, .int .u8 0, .int .u8 0, .int .u8 0, .int .u8 0, .int .u8 0, .int .u8 0, .int .u8 0, .int .u8 0, .int .u8 0, .int .u8 0, .int .u8 0, .int .u8 0, .int .u8 0, .int .u8 0, .int .u8 0, .int .u8 0, .int .u8 0, .int .u8 0, .int .u8 0, .int .u8 0, .int .u8 0, .int .u8 0, .int .u8 0, .int .u8 0, .int .u8 0, .int .u8 0, .int .u8 0, .int .u8 0, .int .u8 0, .int .u8 0, .int .u8 0, .int .u8 0, .int .u8 0, .int .u8 0, .int .u8 0, .int .u8 0, .int .u8 0, .int .u8 0, .int .u8 0, .int .u8 0, .int .u8 0] (dc_zero w) (by rw [HSZ.out]; exact Tryz.info171) (by rw [HSZ.out]; rfl) (arr_one h) ?_; clear tokA _t; have HX : Hid (DcS w h (((w.alloc (.cells #[.int .i64 0, .int .i64 0, .int .i64 0, .int .i64 0, .slice none 0 0] 88)).alloc (.cells #[.int .u8 0, .int .u8 0, .int .u8 0, .int .u8 0, .int .u8 0, .int .u8 0, .int .u8 0, .int .u8 0, .int .u8 0, .int .u8 0, .int .u8 0, .int .u8 0, .int .u8 0, .int .u8 0, .int .u8 0, .int .u8 0, .int .u8 0, .int .u8 0, .int .u8 0, .int .u8 0, .int .u8 0, .int .u8 0, .int .u8 0, .int .u8 0, .int .u8 0, .int .u8 0, .int .u8 0, .int .u8 0, .int .u8 0, .int .u8 0, .int .u8 0, .int .u8 0, .int .u8 0, .int .u8 0, .int .u8 0, .int .u8 0, .int .u8 0, .int .u8 0, .int .u8 0, .int .u8 0, .int .u8 0, .int .u8 0, .int .u8 0, .int .u8 0, .int .u8 0, .int .u8 0, .int .u8 0, .int .u8 0] 171)).setRow (w.heap.size + 1) (cv h).toArray)) := DcS.made w h; generalize ((w.alloc (.cells #[.int .i64 0, .int .i64 0, .int .i64 0, .int .i64 0, .slice none 0 0] 88)).alloc (.cells #[.int .u8 0, .int .u8 0, .int .u8 0, .int .u8 0, .int .u8 0, .int .u8 0, .int .u8 0, .int .u8 0, .int .u8 0, .int .u8 0, .int .u8 0, .int .u8 0, .int .u8 0, .int .u8 0, .int .u8 0, .int .u8 0, .int .u8 0, .int .u8 0, .int .u8 0, .int .u8 0, .int .u8 0, .int .u8 0, .int .u8 0, .int .u8 0, .int .u8 0, .int .u8 0, .int .u8 0, .int .u8 0, .int .u8 0, .int .u8 0, .int .u8 0, .int .u8 0, .int .u8 0, .int .u8 0, .int .u8 0, .int .u8 0, .int .u8 0, .int .u8 0, .int .u8 0, .int .u8 0, .int .u8 0, .int .u8 0, .int .u8 0, .int .u8 0, .int .u8 0, .int .u8 0, .int .u8 0, .int .u8 0] 171)).setRow (w.heap.size + 1) (cv h).toArray = x0 at HX ⊢; have HX0 : Hid (DcS w h x0) := HX; clear HX)
        | (have _t := HX0; refine wpList_load_row rfl 171 _ rfl (w.heap.size + 1) rfl 171 (cv h).toArray (0, 0) _ HX0.out.arr Tryz.underlying171 rfl (by rw [HSZ.out]; exact Tryz.info171) ?_)
        | (go_at_call 96; have _t := HX0; refine (HN1.out _).mono ?_; rintro e x1 ⟨rfl, hb⟩; have HX1 : Hid (DcS w h x1) := DcS.below HX0.out hb; clear hb HX0 _t)
        | (have _t := HX1; refine wpList_store_row rfl 88 _ _ rfl w.heap.size #[.int .i64 0, .int .i64 0, .int .i64 0, .int .i64 0, .slice none 0 0] rfl rfl 88 _ HX1.out.res Tryz.info88 rfl (bat_one _ _ _ _ _ _ _) ?_))
      refine bodyPost_ret (v := .tuple #[.agg #[.int .i64 0, .int .i64 0, .int .i64 0, .int .i64 0, .slice none 0 0], .int .i64 0, .int .i64 10]) ?_ rfl (HPB.out HNO.out _ _ ⟨rfl, below_setRow HX1.out.bel (Nat.le_refl _) _⟩)
      exact results_bat3 (p := 2) (u := 3) (u2 := 4) (by rfl) _ _ w.heap.size _ _ _ (by rfl) (by rfl) (by rfl) rfl (setRow_heap _ _ _ _ _ _ HX1.out.res)
  have g1d : decide ((NN : Int) < 48) = false := decide_eq_false (by omega)
  by_cases g2 : l.length < NN
  · have g2I : (l.length : Int) < (NN : Int) := by omega
    have HNO : Hid (¬ OkB l) := fun q => by have := (HOK.out q).2.1; omega
    as_aux_lemma =>
      go_enter Tryz.func84, Tryz.ntmps84
      go_wp2_with (first
        | (have _t := tokA; refine wpList_load_mid rfl 171 _ rfl pb poff rfl (cv h) _ (HRG.out _ (below_box _)) Tryz.underlying171 rfl (by rw [HCL.out]; exact Tryz.info171) ?_)
        | (have _t := tokA; refine wpList_store_row rfl 171 _ _ rfl (w.heap.size + 1) (cv h).toArray rfl rfl 171 #[.int .u8 0, .int .u8 0, .int .u8 0, .int .u8 0, .int .u8 0, .int .u8 0, .int .u8 0, .int .u8 0, .int .u8 0, .int .u8 0, .int .u8 0, .int .u8 0, .int .u8 0, .int .u8 0, .int .u8 0, .int .u8 0, .int .u8 0, .int .u8 0, .int .u8 0, .int .u8 0, .int .u8 0, .int .u8 0, .int .u8 0, .int .u8 0, .int .u8 0, .int .u8 0, .int .u8 0, .int .u8 0, .int .u8 0, .int .u8 0, .int .u8 0, .int .u8 0, .int .u8 0, .int .u8 0, .int .u8 0, .int .u8 0, .int .u8 0, .int .u8 0, .int .u8 0, .int .u8 0, .int .u8 0, .int .u8 0, .int .u8 0, .int .u8 0, .int .u8 0, .int .u8 0, .int .u8 0, .int .u8 0] (dc_zero w) (by rw [HSZ.out]; exact Tryz.info171) (by rw [HSZ.out]; rfl) (arr_one h) ?_; clear tokA _t; have HX : Hid (DcS w h (((w.alloc (.cells #[.int .i64 0, .int .i64 0, .int .i64 0, .int .i64 0, .slice none 0 0] 88)).alloc (.cells #[.int .u8 0, .int .u8 0, .int .u8 0, .int .u8 0, .int .u8 0, .int .u8 0, .int .u8 0, .int .u8 0, .int .u8 0, .int .u8 0, .int .u8 0, .int .u8 0, .int .u8 0, .int .u8 0, .int .u8 0, .int .u8 0, .int .u8 0, .int .u8 0, .int .u8 0, .int .u8 0, .int .u8 0, .int .u8 0, .int .u8 0, .int .u8 0, .int .u8 0, .int .u8 0, .int .u8 0, .int .u8 0, .int .u8 0, .int .u8 0, .int .u8 0, .int .u8 0, .int .u8 0, .int .u8 0, .int .u8 0, .int .u8 0, .int .u8 0, .int .u8 0, .int .u8 0, .int .u8 0, .int .u8 0, .int .u8 0, .int .u8 0, .int .u8 0, .int .u8 0, .int .u8 0, .int .u8 0, .int .u8 0] 171)).setRow (w.heap.size + 1) (cv h).toArray)) := DcS.made w h; generalize ((w.alloc (.cells #[.int .i64 0, .int .i64 0, .int .i64 0, .int .i64 0, .slice none 0 0] 88)).alloc (.cells #[.int .u8 0, .int .u8 0, .int .u8 0, .int .u8 0, .int .u8 0, .int .u8 0, .int .u8 0, .int .u8 0, .int .u8 0, .int .u8 0, .int .u8 0, .int .u8 0, .int .u8 0, .int .u8 0, .int .u8 0, .int .u8 0, .int .u8 0, .int .u8 0, .int .u8 0, .int .u8 0, .int .u8 0, .int .u8 0, .int .u8 0, .int .u8 0, .int .u8 0, .int .u8 0, .int .u8 0, .int .u8 0, .int .u8 0, .int .u8 0, .int .u8 0, .int .u8 0, .int .u8 0, .int .u8 0, .int .u8 0, .int .u8 0, .int .u8 0, .int .u8 0, .int .u8 0, .int .u8 0, .int .u8 0, .int .u8 0, .int .u8 0, .int .u8 0, .int .u8 0, .int .u8 0, .int .u8 0, .int .u8 0] 171)).setRow (w.heap.size + 1) (cv h).toArray = x0 at HX ⊢; have HX0 : Hid (DcS w h x0) := HX; clear HX)
        | (have _t := HX0; refine wpList_load_row rfl 171 _ rfl (w.heap.size + 1) rfl 171 (cv h).toArray (0, 0) _ HX0.out.arr Tryz.underlying171 rfl (by rw [HSZ.out]; exact Tryz.info171) ?_)
        | (go_at_call 96; have _t := HX0; refine (HN1.out _).mono ?_; rintro e x1 ⟨rfl, hb⟩; have HX1 : Hid (DcS w h x1) := DcS.below HX0.out hb; clear hb HX0 _t)
        | (have _t := HX1; refine wpList_store_row rfl 88 _ _ rfl w.heap.size #[.int .i64 0, .int .i64 0, .int .i64 0, .int .i64 0, .slice none 0 0] rfl rfl 88 _ HX1.out.res Tryz.info88 rfl (bat_one _ _ _ _ _ _ _) ?_))
      refine bodyPost_ret (v := .tuple #[.agg #[.int .i64 0, .int .i64 0, .int .i64 0, .int .i64 0, .slice none 0 0], .int .i64 0, .int .i64 10]) ?_ rfl (HPB.out HNO.out _ _ ⟨rfl, below_setRow HX1.out.bel (Nat.le_refl _) _⟩)
      exact results_bat3 (p := 2) (u := 3) (u2 := 4) (by rfl) _ _ w.heap.size _ _ _ (by rfl) (by rfl) (by rfl) rfl (setRow_heap _ _ _ _ _ _ HX1.out.res)
  have g2d : decide ((l.length : Int) < (NN : Int)) = false := decide_eq_false (by omega)
  by_cases g3 : 6000 < NN
  · have g3I : (6000 : Int) < (NN : Int) := by omega
    have HNO : Hid (¬ OkB l) := fun q => by have := (HOK.out q).2.2.1; omega
    as_aux_lemma =>
      go_enter Tryz.func84, Tryz.ntmps84
      go_wp2_with (first
        | (have _t := tokA; refine wpList_load_mid rfl 171 _ rfl pb poff rfl (cv h) _ (HRG.out _ (below_box _)) Tryz.underlying171 rfl (by rw [HCL.out]; exact Tryz.info171) ?_)
        | (have _t := tokA; refine wpList_store_row rfl 171 _ _ rfl (w.heap.size + 1) (cv h).toArray rfl rfl 171 #[.int .u8 0, .int .u8 0, .int .u8 0, .int .u8 0, .int .u8 0, .int .u8 0, .int .u8 0, .int .u8 0, .int .u8 0, .int .u8 0, .int .u8 0, .int .u8 0, .int .u8 0, .int .u8 0, .int .u8 0, .int .u8 0, .int .u8 0, .int .u8 0, .int .u8 0, .int .u8 0, .int .u8 0, .int .u8 0, .int .u8 0, .int .u8 0, .int .u8 0, .int .u8 0, .int .u8 0, .int .u8 0, .int .u8 0, .int .u8 0, .int .u8 0, .int .u8 0, .int .u8 0, .int .u8 0, .int .u8 0, .int .u8 0, .int .u8 0, .int .u8 0, .int .u8 0, .int .u8 0, .int .u8 0, .int .u8 0, .int .u8 0, .int .u8 0, .int .u8 0, .int .u8 0, .int .u8 0, .int .u8 0] (dc_zero w) (by rw [HSZ.out]; exact Tryz.info171) (by rw [HSZ.out]; rfl) (arr_one h) ?_; clear tokA _t; have HX : Hid (DcS w h (((w.alloc (.cells #[.int .i64 0, .int .i64 0, .int .i64 0, .int .i64 0, .slice none 0 0] 88)).alloc (.cells #[.int .u8 0, .int .u8 0, .int .u8 0, .int .u8 0, .int .u8 0, .int .u8 0, .int .u8 0, .int .u8 0, .int .u8 0, .int .u8 0, .int .u8 0, .int .u8 0, .int .u8 0, .int .u8 0, .int .u8 0, .int .u8 0, .int .u8 0, .int .u8 0, .int .u8 0, .int .u8 0, .int .u8 0, .int .u8 0, .int .u8 0, .int .u8 0, .int .u8 0, .int .u8 0, .int .u8 0, .int .u8 0, .int .u8 0, .int .u8 0, .int .u8 0, .int .u8 0, .int .u8 0, .int .u8 0, .int .u8 0, .int .u8 0, .int .u8 0, .int .u8 0, .int .u8 0, .int .u8 0, .int .u8 0, .int .u8 0, .int .u8 0, .int .u8 0, .int .u8 0, .int .u8 0, .int .u8 0, .int .u8 0] 171)).setRow (w.heap.size + 1) (cv h).toArray)) := DcS.made w h; generalize ((w.alloc (.cells #[.int .i64 0, .int .i64 0, .int .i64 0, .int .i64 0, .slice none 0 0] 88)).alloc (.cells #[.int .u8 0, .int .u8 0, .int .u8 0, .int .u8 0, .int .u8 0, .int .u8 0, .int .u8 0, .int .u8 0, .int .u8 0, .int .u8 0, .int .u8 0, .int .u8 0, .int .u8 0, .int .u8 0, .int .u8 0, .int .u8 0, .int .u8 0, .int .u8 0, .int .u8 0, .int .u8 0, .int .u8 0, .int .u8 0, .int .u8 0, .int .u8 0, .int .u8 0, .int .u8 0, .int .u8 0, .int .u8 0, .int .u8 0, .int .u8 0, .int .u8 0, .int .u8 0, .int .u8 0, .int .u8 0, .int .u8 0, .int .u8 0, .int .u8 0, .int .u8 0, .int .u8 0, .int .u8 0, .int .u8 0, .int .u8 0, .int .u8 0, .int .u8 0, .int .u8 0, .int .u8 0, .int .u8 0, .int .u8 0] 171)).setRow (w.heap.size + 1) (cv h).toArray = x0 at HX ⊢; have HX0 : Hid (DcS w h x0) := HX; clear HX)
        | (have _t := HX0; refine wpList_load_row rfl 171 _ rfl (w.heap.size + 1) rfl 171 (cv h).toArray (0, 0) _ HX0.out.arr Tryz.underlying171 rfl (by rw [HSZ.out]; exact Tryz.info171) ?_)
        | (go_at_call 96; have _t := HX0; refine (HN1.out _).mono ?_; rintro e x1 ⟨rfl, hb⟩; have HX1 : Hid (DcS w h x1) := DcS.below HX0.out hb; clear hb HX0 _t)
        | (have _t := HX1; refine wpList_store_row rfl 88 _ _ rfl w.heap.size #[.int .i64 0, .int .i64 0, .int .i64 0, .int .i64 0, .slice none 0 0] rfl rfl 88 _ HX1.out.res Tryz.info88 rfl (bat_one _ _ _ _ _ _ _) ?_))
      refine bodyPost_ret (v := .tuple #[.agg #[.int .i64 0, .int .i64 0, .int .i64 0, .int .i64 0, .slice none 0 0], .int .i64 0, .int .i64 10]) ?_ rfl (HPB.out HNO.out _ _ ⟨rfl, below_setRow HX1.out.bel (Nat.le_refl _) _⟩)
      exact results_bat3 (p := 2) (u := 3) (u2 := 4) (by rfl) _ _ w.heap.size _ _ _ (by rfl) (by rfl) (by rfl) rfl (setRow_heap _ _ _ _ _ _ HX1.out.res)
  exact absurd hsz (by omega)
end Go.Proofs.YtaooidckmepdeaaGreatDoor
