/- The reader: take. -/
import Derived.Test.YtaooidckmepdeaaDoorKu
namespace Go.Proofs.YtaooidckmepdeaaDoor
set_option linter.unusedSimpArgs false
set_option linter.unusedVariables false
open Go.RowKit
/-- All stays, but for blocks B and X. -/
structure KeepX (B X : Nat) (w w' : World) : Prop where
  size : w.heap.size ≤ w'.heap.size
  blk : ∀ x, x ≠ B → x ≠ X → x < w.heap.size → w'.heap[x]? = w.heap[x]?
theorem KeepX.refl (B X : Nat) (w : World) : KeepX B X w w := ⟨Nat.le_refl _, fun _ _ _ _ => rfl⟩
theorem KeepX.trans {B X : Nat} {w w1 w2 : World} (h : KeepX B X w w1) (k : KeepX B X w1 w2) : KeepX B X w w2 :=
  ⟨Nat.le_trans h.size k.size, fun x hx hy hl => (k.blk x hx hy (Nat.lt_of_lt_of_le hl h.size)).trans (h.blk x hx hy hl)⟩
theorem KeepX.of {B X : Nat} {w w' : World} (h : KeepB B w w') : KeepX B X w w' := ⟨h.size, fun x hx _ hl => h.blk x hx hl⟩
theorem KeepX.put {B X off : Nat} {w w' : World} {v : Value} (h : KeepB B w w') : KeepX B X w (w'.setCell ⟨X, off, none⟩ v) :=
  ⟨Nat.le_trans h.size (by simp [World.setCell]), fun x hx hy hl => (heap_setCell_other w' ⟨X, off, none⟩ x v hy).trans (h.blk x hx hl)⟩
/-- What take leaves. -/
def TkP (w0 w : World) (X : Nat) (b : Bd) (st : Ls) (e : Ending) (w' : World) : Prop := e = .returned (.tuple #[]) ∧ (∃ p, BdX w' X b p) ∧ RdR w0 w' st ∧ KeepX w0.heap.size X w w'
theorem below_drew (w : World) : Below w.heap.size w w.drew := (Below.refl _ _).drew
theorem take_endN {w0 w w2 : World} {X : Nat} {b : Bd} {p : Pt} {st : Ls} (f : Nat) (v : Int) (hf : f < 20) (hk : kd f = 0 ∨ kd f = 1) (hb : b f = fz) (hX : w0.heap.size < X) (hr : RdR w0 w2 st) (hx : BdX w2 X b p) (kk : KeepB w0.heap.size w w2) :
    TkP w0 w X (setB b f (vn v)) st (.returned (.tuple #[])) (w2.setCell ⟨X, f, none⟩ (.int .i64 v)) := by
  have h11 : f ≠ 11 ∧ f ≠ 17 ∧ f ≠ 18 ∧ f ≠ 19 := by refine ⟨?_, ?_, ?_, ?_⟩ <;> rintro rfl <;> rcases hk with q | q <;> exact absurd q (by decide)
  obtain ⟨r1, r2, r3, r4⟩ := hx.rows f (.int .i64 v)
  have e11 : setB b f (vn v) 11 = b 11 := by simp [setB, Ne.symm h11.1]
  have e17 : setB b f (vn v) 17 = b 17 := by simp [setB, Ne.symm h11.2.1]
  have e18 : setB b f (vn v) 18 = b 18 := by simp [setB, Ne.symm h11.2.2.1]
  have e19 : setB b f (vn v) 19 = b 19 := by simp [setB, Ne.symm h11.2.2.2]
  refine ⟨rfl, ⟨p, ?_, by rw [e11]; exact r1, by rw [e17]; exact r2, by rw [e18]; exact r3, r4, by rw [e19]; exact hx.bb, hx.n1, hx.o1, hx.o2, hx.o3, hx.o4⟩, hr.off' hX, KeepX.put kk⟩
  rw [bdc_setN b p f v hf hk hb]
  exact one_put hx.box f _
theorem take_endT {w0 w w2 : World} {X : Nat} {b : Bd} {p : Pt} {st : Ls} (f : Nat) (v : ByteArray) (hf : f ≤ 1) (hb : b f = fz) (hX : w0.heap.size < X) (hr : RdR w0 w2 st) (hx : BdX w2 X b p) (kk : KeepB w0.heap.size w w2) :
    TkP w0 w X (setB b f (vt v)) st (.returned (.tuple #[])) (w2.setCell ⟨X, 20 + f, none⟩ (.string v)) := by
  have h11 : f ≠ 11 ∧ f ≠ 17 ∧ f ≠ 18 ∧ f ≠ 19 := by omega
  obtain ⟨r1, r2, r3, r4⟩ := hx.rows (20 + f) (.string v)
  have e11 : setB b f (vt v) 11 = b 11 := by simp [setB, Ne.symm h11.1]
  have e17 : setB b f (vt v) 17 = b 17 := by simp [setB, Ne.symm h11.2.1]
  have e18 : setB b f (vt v) 18 = b 18 := by simp [setB, Ne.symm h11.2.2.1]
  have e19 : setB b f (vt v) 19 = b 19 := by simp [setB, Ne.symm h11.2.2.2]
  refine ⟨rfl, ⟨p, ?_, by rw [e11]; exact r1, by rw [e17]; exact r2, by rw [e18]; exact r3, r4, by rw [e19]; exact hx.bb, hx.n1, hx.o1, hx.o2, hx.o3, hx.o4⟩, hr.off' hX, KeepX.put kk⟩
  rw [bdc_setT b p f v hf hb]
  exact one_put hx.box (20 + f) _
theorem take_endR {w0 w w2 : World} {X : Nat} {b : Bd} {p : Pt} {st : Ls} (x : List Rc) (a : Option Addr) (c : Nat) (hb : b 11 = fz) (hX : w0.heap.size < X) (hXw : X < w.heap.size) (hr : RdR w0 w2 st) (hx : BdX w2 X b p) (kk : KeepB w0.heap.size w w2)
    (hrow : RRow w2 a x) (hn : a = none → c = 0) (hg : ∀ g, a = some g → w.heap.size ≤ g.block) :
    TkP w0 w X (setB b 11 (vr' x)) st (.returned (.tuple #[])) (w2.setCell ⟨X, 40, none⟩ (.slice a x.length c)) := by
  obtain ⟨r1, r2, r3, r4⟩ := hx.rows 40 (.slice a x.length c)
  have hs : ∀ k, k ≠ X → (w2.setCell ⟨X, 40, none⟩ (.slice a x.length c)).heap[k]? = w2.heap[k]? := fun k hk => heap_setCell_other w2 ⟨X, 40, none⟩ k _ hk
  have hne : ∀ bb off, a = some ⟨bb, off, none⟩ → bb ≠ X := fun bb off e => (by have := hg _ e; simp only at this; omega)
  have hgt : ∀ g, a = some g → X < g.block := fun g e => Nat.lt_of_lt_of_le hXw (hg g e)
  refine ⟨rfl, ⟨{ p with ra := a, rc := c }, ?_, (by have q : setB b 11 (vr' x) 11 = vr' x := (by simp [setB]); rw [q]; exact rrow_keep hrow (fun i hi bb off e => hs bb (hne bb off e))), (by have q : setB b 11 (vr' x) 17 = b 17 := (by simp [setB]); rw [q]; exact r2), (by have q : setB b 11 (vr' x) 18 = b 18 := (by simp [setB]); rw [q]; exact r3), r4, (by have q : setB b 11 (vr' x) 19 = b 19 := (by simp [setB]); rw [q]; exact hx.bb), hn, hgt, hx.o2, hx.o3, hx.o4⟩, hr.off' hX, KeepX.put kk⟩
  rw [bdc_row b p { p with ra := a, rc := c } 11 (vr' x) 0 (.slice a x.length c) rfl rfl hb (by decide) (by simp [setB, vr'])]
  exact one_put hx.box 40 _
theorem take_endM {w0 w w2 : World} {X : Nat} {b : Bd} {p : Pt} {st : Ls} (x : List ByteArray) (a : Option Addr) (c : Nat) (hb : b 17 = fz) (hX : w0.heap.size < X) (hXw : X < w.heap.size) (hr : RdR w0 w2 st) (hx : BdX w2 X b p) (kk : KeepB w0.heap.size w w2)
    (hrow : SRow w2 a x) (hn : a = none → c = 0) (hg : ∀ g, a = some g → w.heap.size ≤ g.block) :
    TkP w0 w X (setB b 17 (vm x)) st (.returned (.tuple #[])) (w2.setCell ⟨X, 41, none⟩ (.slice a x.length c)) := by
  obtain ⟨r1, r2, r3, r4⟩ := hx.rows 41 (.slice a x.length c)
  have hs : ∀ k, k ≠ X → (w2.setCell ⟨X, 41, none⟩ (.slice a x.length c)).heap[k]? = w2.heap[k]? := fun k hk => heap_setCell_other w2 ⟨X, 41, none⟩ k _ hk
  have hne : ∀ bb off, a = some ⟨bb, off, none⟩ → bb ≠ X := fun bb off e => (by have := hg _ e; simp only at this; omega)
  have hgt : ∀ g, a = some g → X < g.block := fun g e => Nat.lt_of_lt_of_le hXw (hg g e)
  refine ⟨rfl, ⟨{ p with na := a, nc := c }, ?_, (by have q : setB b 17 (vm x) 11 = b 11 := (by simp [setB]); rw [q]; exact r1), (by have q : setB b 17 (vm x) 17 = vm x := (by simp [setB]); rw [q]; exact srow_keep hrow (fun i hi bb off e => hs bb (hne bb off e))), (by have q : setB b 17 (vm x) 18 = b 18 := (by simp [setB]); rw [q]; exact r3), r4, (by have q : setB b 17 (vm x) 19 = b 19 := (by simp [setB]); rw [q]; exact hx.bb), hx.n1, hx.o1, hgt, hx.o3, hx.o4⟩, hr.off' hX, KeepX.put kk⟩
  rw [bdc_row b p { p with na := a, nc := c } 17 (vm x) 1 (.slice a x.length c) rfl rfl hb (by decide) (by simp [setB, vm])]
  exact one_put hx.box 41 _
theorem take_endC {w0 w w2 : World} {X : Nat} {b : Bd} {p : Pt} {st : Ls} (x : List Int) (a : Option Addr) (c : Nat) (hb : b 18 = fz) (hX : w0.heap.size < X) (hXw : X < w.heap.size) (hr : RdR w0 w2 st) (hx : BdX w2 X b p) (kk : KeepB w0.heap.size w w2)
    (hrow : IRow w2 a x) (hn : a = none → c = 0) (hg : ∀ g, a = some g → w.heap.size ≤ g.block) :
    TkP w0 w X (setB b 18 (vc x)) st (.returned (.tuple #[])) (w2.setCell ⟨X, 42, none⟩ (.slice a x.length c)) := by
  obtain ⟨r1, r2, r3, r4⟩ := hx.rows 42 (.slice a x.length c)
  have hs : ∀ k, k ≠ X → (w2.setCell ⟨X, 42, none⟩ (.slice a x.length c)).heap[k]? = w2.heap[k]? := fun k hk => heap_setCell_other w2 ⟨X, 42, none⟩ k _ hk
  have hne : ∀ bb off, a = some ⟨bb, off, none⟩ → bb ≠ X := fun bb off e => (by have := hg _ e; simp only at this; omega)
  have hgt : ∀ g, a = some g → X < g.block := fun g e => Nat.lt_of_lt_of_le hXw (hg g e)
  refine ⟨rfl, ⟨{ p with ca := a, cc := c }, ?_, (by have q : setB b 18 (vc x) 11 = b 11 := (by simp [setB]); rw [q]; exact r1), (by have q : setB b 18 (vc x) 17 = b 17 := (by simp [setB]); rw [q]; exact r2), (by have q : setB b 18 (vc x) 18 = vc x := (by simp [setB]); rw [q]; exact irow_keep hrow (fun i hi bb off e => hs bb (hne bb off e))), r4, (by have q : setB b 18 (vc x) 19 = b 19 := (by simp [setB]); rw [q]; exact hx.bb), hx.n1, hx.o1, hx.o2, hgt, hx.o4⟩, hr.off' hX, KeepX.put kk⟩
  rw [bdc_row b p { p with ca := a, cc := c } 18 (vc x) 2 (.slice a x.length c) rfl rfl hb (by decide) (by simp [setB, vc])]
  exact one_put hx.box 42 _
theorem take_endB {w0 w w2 : World} {X : Nat} {b : Bd} {p : Pt} {st : Ls} (x : List Ba) (a : Option Addr) (c : Nat) (ss : List Bs) (hss : ss.map (·.b) = x) (hb : b 19 = fz) (hX : w0.heap.size < X) (hXw : X < w.heap.size) (hr : RdR w0 w2 st) (hx : BdX w2 X b p) (kk : KeepB w0.heap.size w w2)
    (hrow : BRow w2 a ss) (hn : a = none → c = 0) (hg : ∀ g, a = some g → w.heap.size ≤ g.block) :
    TkP w0 w X (setB b 19 (vb x)) st (.returned (.tuple #[])) (w2.setCell ⟨X, 43, none⟩ (.slice a ss.length c)) := by
  obtain ⟨r1, r2, r3, r4⟩ := hx.rows 43 (.slice a ss.length c)
  have hs : ∀ k, k ≠ X → (w2.setCell ⟨X, 43, none⟩ (.slice a ss.length c)).heap[k]? = w2.heap[k]? := fun k hk => heap_setCell_other w2 ⟨X, 43, none⟩ k _ hk
  have hne : ∀ bb off, a = some ⟨bb, off, none⟩ → bb ≠ X := fun bb off e => (by have := hg _ e; simp only at this; omega)
  have hgt : ∀ g, a = some g → X < g.block := fun g e => Nat.lt_of_lt_of_le hXw (hg g e)
  refine ⟨rfl, ⟨{ p with ba := a, bc := c, bs := ss }, ?_, (by have q : setB b 19 (vb x) 11 = b 11 := (by simp [setB]); rw [q]; exact r1), (by have q : setB b 19 (vb x) 17 = b 17 := (by simp [setB]); rw [q]; exact r2), (by have q : setB b 19 (vb x) 18 = b 18 := (by simp [setB]); rw [q]; exact r3), ⟨bcells_keep hrow.1 (fun i hi bb off e => hs bb (hne bb off e)), fun i hi => ⟨rrow_keep (hrow.2 i hi).1 (fun j hj bb off e => hs bb (rrow_body hx.box (hrow.2 i hi).1 j hj bb off e)), (hrow.2 i hi).2⟩⟩, (by have q : setB b 19 (vb x) 19 = vb x := (by simp [setB]); rw [q]; exact hss), hx.n1, hx.o1, hx.o2, hx.o3, hgt⟩, hr.off' hX, KeepX.put kk⟩
  rw [bdc_row b p { p with ba := a, bc := c, bs := ss } 19 (vb x) 3 (.slice a ss.length c) rfl rfl hb (by decide) (by simp [setB, vb])]
  exact one_put hx.box 43 _
set_option maxRecDepth 100000 in
set_option maxHeartbeats 400000 in
theorem take_0 (w0 w : World) (st : Ls) (X : Nat) (b : Bd) (p : Pt) (f : Nat) (hf : f < 20) (ek : kd f = 0) (hb : b f = fz) (hX : w0.heap.size < X) (h : RdR w0 w st) (hx : BdX w X b p) :
    Calls Tryd.prog 49 #[(.pointer (some ⟨w0.heap.size, 0, none⟩)), .pointer (some ⟨X, 0, none⟩), .int .i64 (f : Int)] w (TkP w0 w X (setB b f (gK (kd f) st).1) (gK (kd f) st).2) := by
  have HK : Hid (∀ x, Calls Tryd.prog 55 #[.int .i64 (f : Int)] x fun e w' => e = .returned (.int .i64 ((kd f : Nat) : Int)) ∧ w' = x) := fun x => kindOf_any f x
  have HC : Hid (∀ x, RdR w0 x st → Calls Tryd.prog 69 #[(.pointer (some ⟨w0.heap.size, 0, none⟩))] x (RP w0 x (.int .i64 (gI st).1) (gI st).2)) := fun x hx => rnum_any w0 x st hx
  have e2 : gK (kd f) st = (vn (gI st).1, (gI st).2) := by rw [ek]; rfl
  rw [e2]
  rw [ek] at HK
  have HEND : Hid (∀ w2 v s2, RdR w0 w2 s2 → BdX w2 X b p → KeepB w0.heap.size w w2 → TkP w0 w X (setB b f (vn v)) s2 (.returned (.tuple #[])) (w2.setCell ⟨X, f, none⟩ (.int .i64 v))) := fun w2 v s2 q1 q2 q3 => take_endN f v hf (.inl ek) hb hX q1 q2 q3
  have HR : Hid (RdR w0 w.drew st) := h.below (below_drew _)
  have HX : Hid (∀ w2, KeepB w0.heap.size w.drew w2 → BdX w2 X b p ∧ KeepB w0.heap.size w w2) := fun w2 k => ⟨(BdX.keepB hx h hX (KeepB.of_below (below_drew _))).keepB (h.below (below_drew _)) hX k, (KeepB.of_below (below_drew _)).trans k⟩
  have hfI : (f : Int) < 20 := by omega
  clear e2 ek hX h hx
  dsimp only
  generalize (gI st).1 = vv at *
  generalize (gI st).2 = s2 at *
  go_enter Tryd.func49, Tryd.ntmps49
  go_wp2_with (first
    | (go_at_call 55; refine (HK.out _).mono ?_; rintro e w1 ⟨rfl, hw1⟩; subst w1))
  refine wp_region_lat (fun _ : World => True) 7 (by kernel_rfl) trivial (fun hHeld => ?_)
  refine lat_take 0 (v := ?_) rfl (by kernel_rfl) (by kernel_rfl) (by kernel_rfl) (by kernel_rfl) (fun _ _ _ h => h) (by rfl) ?_ (by assumption) ?_
  rotate_left
  · (intro y hSy; (try dsimp only at hSy); go_simp <;> with_reducible rfl)
  try simp only [Act.put, List.setIfInBounds_toArray, List.set_cons_zero, List.set_cons_succ]
  refine lat_take 1 (v := ?_) rfl (by kernel_rfl) (by kernel_rfl) (by kernel_rfl) (by kernel_rfl) (fun _ _ _ h => h) (by rfl) ?_ (by assumption) ?_
  rotate_left
  · (intro y hSy; (try dsimp only at hSy); go_simp <;> with_reducible rfl)
  try simp only [Act.put, List.setIfInBounds_toArray, List.set_cons_zero, List.set_cons_succ]
  refine lat_take 2 (v := ?_) rfl (by kernel_rfl) (by kernel_rfl) (by kernel_rfl) (by kernel_rfl) (fun _ _ _ h => h) (by rfl) ?_ (by assumption) ?_
  rotate_left
  · (intro y hSy; (try dsimp only at hSy); go_simp <;> with_reducible rfl)
  try simp only [Act.put, List.setIfInBounds_toArray, List.set_cons_zero, List.set_cons_succ]
  refine lat_take 4 (v := ?_) rfl (by kernel_rfl) (by kernel_rfl) (by kernel_rfl) (by kernel_rfl) (fun _ _ _ h => h) (by rfl) ?_ (by assumption) ?_
  rotate_left
  · (intro y hSy; (try dsimp only at hSy); go_simp <;> with_reducible rfl)
  try simp only [Act.put, List.setIfInBounds_toArray, List.set_cons_zero, List.set_cons_succ]
  refine lat_take 5 (v := ?_) rfl (by kernel_rfl) (by kernel_rfl) (by kernel_rfl) (by kernel_rfl) (fun _ _ _ h => h) (by rfl) ?_ (by assumption) ?_
  rotate_left
  · (intro y hSy; (try dsimp only at hSy); go_simp <;> with_reducible rfl)
  try simp only [Act.put, List.setIfInBounds_toArray, List.set_cons_zero, List.set_cons_succ]
  refine lat_one 3 rfl (by kernel_rfl) (by decide) (by rfl) (fun K hK => ?_)
  go_simp
  refine Calls.mono (HC.out _ HR.out) ?_
  rintro e w2 ⟨rfl, hw2, hk2⟩
  obtain ⟨hx2, hkk⟩ := HX.out w2 hk2
  have HE := HEND.out w2 vv s2 hw2 hx2 hkk
  obtain ⟨cn, ct, _, _, _, _, hlt⟩ := bdc_box hx2.box
  have hcL := cn f hf
  have hfL := (box_at hx2.box (f)).2
  clear cn ct hw2 hkk hk2
  have HE2 : Hid _ := HE
  clear HE hx2
  try dsimp only
  refine hK.out _ _ trivial (fun hH2 => ?_)
  clear hK
  try simp only [Act.put, List.setIfInBounds_toArray, List.set_cons_zero, List.set_cons_succ]
  refine lat_take 6 (v := ?_) rfl (by kernel_rfl) (by kernel_rfl) (by kernel_rfl) (by kernel_rfl) (fun _ _ _ h => h) (by rfl) ?_ (by assumption) ?_
  rotate_left
  · (intro y hSy; (try dsimp only at hSy); go_simp <;> with_reducible rfl)
  try simp only [Act.put, List.setIfInBounds_toArray, List.set_cons_zero, List.set_cons_succ]
  refine lat_last 7 rfl (by kernel_rfl) (by decide) (by kernel_rfl) (by rfl) (fun K hK => ?_)
  go_simp
  try dsimp only
  refine hK.out _ _ ?_
  clear hK
  try simp only [Act.put, List.setIfInBounds_toArray, List.set_cons_zero, List.set_cons_succ]
  go_wp2_with (fail)
  go_end0
  exact ⟨rfl, HE2.out.2⟩
set_option maxRecDepth 100000 in
set_option maxHeartbeats 400000 in
theorem take_1 (w0 w : World) (st : Ls) (X : Nat) (b : Bd) (p : Pt) (f : Nat) (hf : f < 20) (ek : kd f = 1) (hb : b f = fz) (hX : w0.heap.size < X) (h : RdR w0 w st) (hx : BdX w X b p) :
    Calls Tryd.prog 49 #[(.pointer (some ⟨w0.heap.size, 0, none⟩)), .pointer (some ⟨X, 0, none⟩), .int .i64 (f : Int)] w (TkP w0 w X (setB b f (gK (kd f) st).1) (gK (kd f) st).2) := by
  have HK : Hid (∀ x, Calls Tryd.prog 55 #[.int .i64 (f : Int)] x fun e w' => e = .returned (.int .i64 ((kd f : Nat) : Int)) ∧ w' = x) := fun x => kindOf_any f x
  have HC : Hid (∀ x, RdR w0 x st → Calls Tryd.prog 70 #[(.pointer (some ⟨w0.heap.size, 0, none⟩)), .int .i64 1, .int .i64 1] x (RP w0 x (.int .i64 ((gUp 1 1 st).1 : Nat)) (gUp 1 1 st).2)) := fun x hx => rup_any w0 x st 1 1 1 rfl rfl (by decide) hx
  have e2 : gK (kd f) st = (vn ((gUp 1 1 st).1 : Nat), (gUp 1 1 st).2) := by rw [ek]; rfl
  rw [e2]
  rw [ek] at HK
  have HEND : Hid (∀ w2 v s2, RdR w0 w2 s2 → BdX w2 X b p → KeepB w0.heap.size w w2 → TkP w0 w X (setB b f (vn v)) s2 (.returned (.tuple #[])) (w2.setCell ⟨X, f, none⟩ (.int .i64 v))) := fun w2 v s2 q1 q2 q3 => take_endN f v hf (.inr ek) hb hX q1 q2 q3
  have HR : Hid (RdR w0 w.drew st) := h.below (below_drew _)
  have HX : Hid (∀ w2, KeepB w0.heap.size w.drew w2 → BdX w2 X b p ∧ KeepB w0.heap.size w w2) := fun w2 k => ⟨(BdX.keepB hx h hX (KeepB.of_below (below_drew _))).keepB (h.below (below_drew _)) hX k, (KeepB.of_below (below_drew _)).trans k⟩
  have hfI : (f : Int) < 20 := by omega
  clear e2 ek hX h hx
  dsimp only
  generalize (((gUp 1 1 st).1 : Nat) : Int) = vv at *
  generalize (gUp 1 1 st).2 = s2 at *
  go_enter Tryd.func49, Tryd.ntmps49
  go_wp2_with (first
    | (go_at_call 55; refine (HK.out _).mono ?_; rintro e w1 ⟨rfl, hw1⟩; subst w1))
  refine wp_region_lat (fun _ : World => True) 7 (by kernel_rfl) trivial (fun hHeld => ?_)
  refine lat_take 0 (v := ?_) rfl (by kernel_rfl) (by kernel_rfl) (by kernel_rfl) (by kernel_rfl) (fun _ _ _ h => h) (by rfl) ?_ (by assumption) ?_
  rotate_left
  · (intro y hSy; (try dsimp only at hSy); go_simp <;> with_reducible rfl)
  try simp only [Act.put, List.setIfInBounds_toArray, List.set_cons_zero, List.set_cons_succ]
  refine lat_take 1 (v := ?_) rfl (by kernel_rfl) (by kernel_rfl) (by kernel_rfl) (by kernel_rfl) (fun _ _ _ h => h) (by rfl) ?_ (by assumption) ?_
  rotate_left
  · (intro y hSy; (try dsimp only at hSy); go_simp <;> with_reducible rfl)
  try simp only [Act.put, List.setIfInBounds_toArray, List.set_cons_zero, List.set_cons_succ]
  refine lat_take 2 (v := ?_) rfl (by kernel_rfl) (by kernel_rfl) (by kernel_rfl) (by kernel_rfl) (fun _ _ _ h => h) (by rfl) ?_ (by assumption) ?_
  rotate_left
  · (intro y hSy; (try dsimp only at hSy); go_simp <;> with_reducible rfl)
  try simp only [Act.put, List.setIfInBounds_toArray, List.set_cons_zero, List.set_cons_succ]
  refine lat_take 4 (v := ?_) rfl (by kernel_rfl) (by kernel_rfl) (by kernel_rfl) (by kernel_rfl) (fun _ _ _ h => h) (by rfl) ?_ (by assumption) ?_
  rotate_left
  · (intro y hSy; (try dsimp only at hSy); go_simp <;> with_reducible rfl)
  try simp only [Act.put, List.setIfInBounds_toArray, List.set_cons_zero, List.set_cons_succ]
  refine lat_take 5 (v := ?_) rfl (by kernel_rfl) (by kernel_rfl) (by kernel_rfl) (by kernel_rfl) (fun _ _ _ h => h) (by rfl) ?_ (by assumption) ?_
  rotate_left
  · (intro y hSy; (try dsimp only at hSy); go_simp <;> with_reducible rfl)
  try simp only [Act.put, List.setIfInBounds_toArray, List.set_cons_zero, List.set_cons_succ]
  refine lat_one 3 rfl (by kernel_rfl) (by decide) (by rfl) (fun K hK => ?_)
  go_simp
  refine Calls.mono (HC.out _ HR.out) ?_
  rintro e w2 ⟨rfl, hw2, hk2⟩
  obtain ⟨hx2, hkk⟩ := HX.out w2 hk2
  have HE := HEND.out w2 vv s2 hw2 hx2 hkk
  obtain ⟨cn, ct, _, _, _, _, hlt⟩ := bdc_box hx2.box
  have hcL := cn f hf
  have hfL := (box_at hx2.box (f)).2
  clear cn ct hw2 hkk hk2
  have HE2 : Hid _ := HE
  clear HE hx2
  try dsimp only
  refine hK.out _ _ trivial (fun hH2 => ?_)
  clear hK
  try simp only [Act.put, List.setIfInBounds_toArray, List.set_cons_zero, List.set_cons_succ]
  refine lat_take 6 (v := ?_) rfl (by kernel_rfl) (by kernel_rfl) (by kernel_rfl) (by kernel_rfl) (fun _ _ _ h => h) (by rfl) ?_ (by assumption) ?_
  rotate_left
  · (intro y hSy; (try dsimp only at hSy); go_simp <;> with_reducible rfl)
  try simp only [Act.put, List.setIfInBounds_toArray, List.set_cons_zero, List.set_cons_succ]
  refine lat_last 7 rfl (by kernel_rfl) (by decide) (by kernel_rfl) (by rfl) (fun K hK => ?_)
  go_simp
  try dsimp only
  refine hK.out _ _ ?_
  clear hK
  try simp only [Act.put, List.setIfInBounds_toArray, List.set_cons_zero, List.set_cons_succ]
  go_wp2_with (fail)
  go_end0
  exact ⟨rfl, HE2.out.2⟩
set_option maxRecDepth 100000 in
set_option maxHeartbeats 400000 in
theorem take_2 (w0 w : World) (st : Ls) (X : Nat) (b : Bd) (p : Pt) (f : Nat) (hf : f < 20) (ek : kd f = 2) (hk1 : f ≤ 1) (hb : b f = fz) (hX : w0.heap.size < X) (h : RdR w0 w st) (hx : BdX w X b p) :
    Calls Tryd.prog 49 #[(.pointer (some ⟨w0.heap.size, 0, none⟩)), .pointer (some ⟨X, 0, none⟩), .int .i64 (f : Int)] w (TkP w0 w X (setB b f (gK (kd f) st).1) (gK (kd f) st).2) := by
  have HK : Hid (∀ x, Calls Tryd.prog 55 #[.int .i64 (f : Int)] x fun e w' => e = .returned (.int .i64 ((kd f : Nat) : Int)) ∧ w' = x) := fun x => kindOf_any f x
  have HC : Hid (∀ x, RdR w0 x st → Calls Tryd.prog 71 #[(.pointer (some ⟨w0.heap.size, 0, none⟩))] x (RP w0 x (.string (gT st).1) (gT st).2)) := fun x hx => rtext_any w0 x st hx
  have e2 : gK (kd f) st = (vt (gT st).1, (gT st).2) := by rw [ek]; rfl
  rw [e2]
  rw [ek] at HK
  have HEND : Hid (∀ w2 v s2, RdR w0 w2 s2 → BdX w2 X b p → KeepB w0.heap.size w w2 → TkP w0 w X (setB b f (vt v)) s2 (.returned (.tuple #[])) (w2.setCell ⟨X, 20 + f, none⟩ (.string v))) := fun w2 v s2 q1 q2 q3 => take_endT f v hk1 hb hX q1 q2 q3
  have HR : Hid (RdR w0 w.drew st) := h.below (below_drew _)
  have HX : Hid (∀ w2, KeepB w0.heap.size w.drew w2 → BdX w2 X b p ∧ KeepB w0.heap.size w w2) := fun w2 k => ⟨(BdX.keepB hx h hX (KeepB.of_below (below_drew _))).keepB (h.below (below_drew _)) hX k, (KeepB.of_below (below_drew _)).trans k⟩
  have hfI : (f : Int) < 20 := by omega
  clear e2 ek hX h hx hk1
  dsimp only
  generalize (gT st).1 = vv at *
  generalize (gT st).2 = s2 at *
  go_enter Tryd.func49, Tryd.ntmps49
  go_wp2_with (first
    | (go_at_call 55; refine (HK.out _).mono ?_; rintro e w1 ⟨rfl, hw1⟩; subst w1))
  refine wp_region_lat (fun _ : World => True) 7 (by kernel_rfl) trivial (fun hHeld => ?_)
  refine lat_take 0 (v := ?_) rfl (by kernel_rfl) (by kernel_rfl) (by kernel_rfl) (by kernel_rfl) (fun _ _ _ h => h) (by rfl) ?_ (by assumption) ?_
  rotate_left
  · (intro y hSy; (try dsimp only at hSy); go_simp <;> with_reducible rfl)
  try simp only [Act.put, List.setIfInBounds_toArray, List.set_cons_zero, List.set_cons_succ]
  refine lat_take 1 (v := ?_) rfl (by kernel_rfl) (by kernel_rfl) (by kernel_rfl) (by kernel_rfl) (fun _ _ _ h => h) (by rfl) ?_ (by assumption) ?_
  rotate_left
  · (intro y hSy; (try dsimp only at hSy); go_simp <;> with_reducible rfl)
  try simp only [Act.put, List.setIfInBounds_toArray, List.set_cons_zero, List.set_cons_succ]
  refine lat_take 2 (v := ?_) rfl (by kernel_rfl) (by kernel_rfl) (by kernel_rfl) (by kernel_rfl) (fun _ _ _ h => h) (by rfl) ?_ (by assumption) ?_
  rotate_left
  · (intro y hSy; (try dsimp only at hSy); go_simp <;> with_reducible rfl)
  try simp only [Act.put, List.setIfInBounds_toArray, List.set_cons_zero, List.set_cons_succ]
  refine lat_take 4 (v := ?_) rfl (by kernel_rfl) (by kernel_rfl) (by kernel_rfl) (by kernel_rfl) (fun _ _ _ h => h) (by rfl) ?_ (by assumption) ?_
  rotate_left
  · (intro y hSy; (try dsimp only at hSy); go_simp <;> with_reducible rfl)
  try simp only [Act.put, List.setIfInBounds_toArray, List.set_cons_zero, List.set_cons_succ]
  refine lat_take 5 (v := ?_) rfl (by kernel_rfl) (by kernel_rfl) (by kernel_rfl) (by kernel_rfl) (fun _ _ _ h => h) (by rfl) ?_ (by assumption) ?_
  rotate_left
  · (intro y hSy; (try dsimp only at hSy); go_simp <;> with_reducible rfl)
  try simp only [Act.put, List.setIfInBounds_toArray, List.set_cons_zero, List.set_cons_succ]
  refine lat_one 3 rfl (by kernel_rfl) (by decide) (by rfl) (fun K hK => ?_)
  go_simp
  refine Calls.mono (HC.out _ HR.out) ?_
  rintro e w2 ⟨rfl, hw2, hk2⟩
  obtain ⟨hx2, hkk⟩ := HX.out w2 hk2
  have HE := HEND.out w2 vv s2 hw2 hx2 hkk
  obtain ⟨cn, ct, _, _, _, _, hlt⟩ := bdc_box hx2.box
  have hcL := ct f hf
  have hfL := (box_at hx2.box (20 + f)).2
  clear cn ct hw2 hkk hk2
  have HE2 : Hid _ := HE
  clear HE hx2
  try dsimp only
  refine hK.out _ _ trivial (fun hH2 => ?_)
  clear hK
  try simp only [Act.put, List.setIfInBounds_toArray, List.set_cons_zero, List.set_cons_succ]
  refine lat_take 6 (v := ?_) rfl (by kernel_rfl) (by kernel_rfl) (by kernel_rfl) (by kernel_rfl) (fun _ _ _ h => h) (by rfl) ?_ (by assumption) ?_
  rotate_left
  · (intro y hSy; (try dsimp only at hSy); go_simp <;> with_reducible rfl)
  try simp only [Act.put, List.setIfInBounds_toArray, List.set_cons_zero, List.set_cons_succ]
  refine lat_last 7 rfl (by kernel_rfl) (by decide) (by kernel_rfl) (by rfl) (fun K hK => ?_)
  go_simp
  try dsimp only
  refine hK.out _ _ ?_
  clear hK
  try simp only [Act.put, List.setIfInBounds_toArray, List.set_cons_zero, List.set_cons_succ]
  go_wp2_with (fail)
  go_end0
  exact ⟨rfl, HE2.out.2⟩
set_option maxRecDepth 100000 in
set_option maxHeartbeats 400000 in
theorem take_3 (w0 w : World) (st : Ls) (X : Nat) (b : Bd) (p : Pt) (hb : b 11 = fz) (hX : w0.heap.size < X) (h : RdR w0 w st) (hx : BdX w X b p) :
    Calls Tryd.prog 49 #[(.pointer (some ⟨w0.heap.size, 0, none⟩)), .pointer (some ⟨X, 0, none⟩), .int .i64 11] w (TkP w0 w X (setB b 11 (vr' (gRow gRec st).1)) (gRow gRec st).2) := by
  have HK : Hid (∀ x, Calls Tryd.prog 55 #[.int .i64 11] x fun e w' => e = .returned (.int .i64 3) ∧ w' = x) := fun x => kindOf_any 11 x
  have hXw : X < w.heap.size := (Array.getElem?_eq_some_iff.1 hx.box).1
  have HC : Hid _ := trow_rec w0 w st h
  have HX : Hid (∀ w2, KeepB w0.heap.size w w2 → BdX w2 X b p) := fun w2 k => hx.keepB h hX k
  clear h hx
  generalize (gRow gRec st).1 = vv at *
  generalize (gRow gRec st).2 = s2 at *
  go_enter Tryd.func49, Tryd.ntmps49
  go_wp2_with (first
    | (go_at_call 55; refine (HK.out _).mono ?_; rintro e w1 ⟨rfl, hw1⟩; subst w1)
    | (go_at_call 72; go_loud (refine Calls.mono HC.out ?_; rintro e w2 ⟨⟨a, c, rfl, hrow, hn2, hg2⟩, hw2, hk2⟩; have hx2 := HX.out w2 hk2; have HE := take_endR (w := w) (b := b) (p := p) (st := s2) vv a c hb hX hXw hw2 hx2 hk2 hrow hn2 hg2; obtain ⟨cn, ct, c0, c1, c2, c3, hlt⟩ := bdc_box hx2.box; have hfL := (box_at hx2.box 40).2; have HE2 : Hid _ := HE; clear HE hx2 cn ct hw2 hk2 HC hrow hn2 hg2; generalize vv.length = LL at *)))
  go_end0
  exact ⟨rfl, HE2.out.2⟩
set_option maxRecDepth 100000 in
set_option maxHeartbeats 400000 in
theorem take_4 (w0 w : World) (st : Ls) (X : Nat) (b : Bd) (p : Pt) (hb : b 17 = fz) (hX : w0.heap.size < X) (h : RdR w0 w st) (hx : BdX w X b p) :
    Calls Tryd.prog 49 #[(.pointer (some ⟨w0.heap.size, 0, none⟩)), .pointer (some ⟨X, 0, none⟩), .int .i64 17] w (TkP w0 w X (setB b 17 (vm (gRow gT st).1)) (gRow gT st).2) := by
  have HK : Hid (∀ x, Calls Tryd.prog 55 #[.int .i64 17] x fun e w' => e = .returned (.int .i64 4) ∧ w' = x) := fun x => kindOf_any 17 x
  have hXw : X < w.heap.size := (Array.getElem?_eq_some_iff.1 hx.box).1
  have HC : Hid _ := trow_txt w0 w st h
  have HX : Hid (∀ w2, KeepB w0.heap.size w w2 → BdX w2 X b p) := fun w2 k => hx.keepB h hX k
  clear h hx
  generalize (gRow gT st).1 = vv at *
  generalize (gRow gT st).2 = s2 at *
  go_enter Tryd.func49, Tryd.ntmps49
  go_wp2_with (first
    | (go_at_call 55; refine (HK.out _).mono ?_; rintro e w1 ⟨rfl, hw1⟩; subst w1)
    | (go_at_call 74; go_loud (refine Calls.mono HC.out ?_; rintro e w2 ⟨⟨a, c, rfl, hrow, hn2, hg2⟩, hw2, hk2⟩; have hx2 := HX.out w2 hk2; have HE := take_endM (w := w) (b := b) (p := p) (st := s2) vv a c hb hX hXw hw2 hx2 hk2 hrow hn2 hg2; obtain ⟨cn, ct, c0, c1, c2, c3, hlt⟩ := bdc_box hx2.box; have hfL := (box_at hx2.box 41).2; have HE2 : Hid _ := HE; clear HE hx2 cn ct hw2 hk2 HC hrow hn2 hg2; generalize vv.length = LL at *)))
  go_end0
  exact ⟨rfl, HE2.out.2⟩
set_option maxRecDepth 100000 in
set_option maxHeartbeats 400000 in
theorem take_5 (w0 w : World) (st : Ls) (X : Nat) (b : Bd) (p : Pt) (hb : b 18 = fz) (hX : w0.heap.size < X) (h : RdR w0 w st) (hx : BdX w X b p) :
    Calls Tryd.prog 49 #[(.pointer (some ⟨w0.heap.size, 0, none⟩)), .pointer (some ⟨X, 0, none⟩), .int .i64 18] w (TkP w0 w X (setB b 18 (vc (gRow gI st).1)) (gRow gI st).2) := by
  have HK : Hid (∀ x, Calls Tryd.prog 55 #[.int .i64 18] x fun e w' => e = .returned (.int .i64 5) ∧ w' = x) := fun x => kindOf_any 18 x
  have hXw : X < w.heap.size := (Array.getElem?_eq_some_iff.1 hx.box).1
  have HC : Hid _ := trow_int w0 w st h
  have HX : Hid (∀ w2, KeepB w0.heap.size w w2 → BdX w2 X b p) := fun w2 k => hx.keepB h hX k
  clear h hx
  generalize (gRow gI st).1 = vv at *
  generalize (gRow gI st).2 = s2 at *
  go_enter Tryd.func49, Tryd.ntmps49
  go_wp2_with (first
    | (go_at_call 55; refine (HK.out _).mono ?_; rintro e w1 ⟨rfl, hw1⟩; subst w1)
    | (go_at_call 75; go_loud (refine Calls.mono HC.out ?_; rintro e w2 ⟨⟨a, c, rfl, hrow, hn2, hg2⟩, hw2, hk2⟩; have hx2 := HX.out w2 hk2; have HE := take_endC (w := w) (b := b) (p := p) (st := s2) vv a c hb hX hXw hw2 hx2 hk2 hrow hn2 hg2; obtain ⟨cn, ct, c0, c1, c2, c3, hlt⟩ := bdc_box hx2.box; have hfL := (box_at hx2.box 42).2; have HE2 : Hid _ := HE; clear HE hx2 cn ct hw2 hk2 HC hrow hn2 hg2; generalize vv.length = LL at *)))
  go_end0
  exact ⟨rfl, HE2.out.2⟩
set_option maxRecDepth 100000 in
set_option maxHeartbeats 400000 in
theorem take_6 (w0 w : World) (st : Ls) (X : Nat) (b : Bd) (p : Pt) (ht : Tab w0) (hb : b 19 = fz) (hX : w0.heap.size < X) (h : RdR w0 w st) (hx : BdX w X b p) :
    Calls Tryd.prog 49 #[(.pointer (some ⟨w0.heap.size, 0, none⟩)), .pointer (some ⟨X, 0, none⟩), .int .i64 19] w (TkP w0 w X (setB b 19 (vb (gRow gBat st).1)) (gRow gBat st).2) := by
  have HK : Hid (∀ x, Calls Tryd.prog 55 #[.int .i64 19] x fun e w' => e = .returned (.int .i64 6) ∧ w' = x) := fun x => kindOf_any 19 x
  have hXw : X < w.heap.size := (Array.getElem?_eq_some_iff.1 hx.box).1
  have HC : Hid _ := trow_bat w0 w st ht h
  have HX : Hid (∀ w2, KeepB w0.heap.size w w2 → BdX w2 X b p) := fun w2 k => hx.keepB h hX k
  clear h hx
  generalize (gRow gBat st).1 = vv at *
  generalize (gRow gBat st).2 = s2 at *
  go_enter Tryd.func49, Tryd.ntmps49
  go_wp2_with (first
    | (go_at_call 55; refine (HK.out _).mono ?_; rintro e w1 ⟨rfl, hw1⟩; subst w1)
    | (go_at_call 76; go_loud (refine Calls.mono HC.out ?_; rintro e w2 ⟨⟨a, c, ss, rfl, hrow, hss, hn2, hg2⟩, hw2, hk2⟩; have hx2 := HX.out w2 hk2; have HE := take_endB (w := w) (b := b) (p := p) (st := s2) vv a c ss hss hb hX hXw hw2 hx2 hk2 hrow hn2 hg2; obtain ⟨cn, ct, c0, c1, c2, c3, hlt⟩ := bdc_box hx2.box; have hfL := (box_at hx2.box 43).2; have HE2 : Hid _ := HE; clear HE hx2 cn ct hw2 hk2 HC hrow hn2 hg2; generalize ss.length = LL at *)))
  go_end0
  exact ⟨rfl, HE2.out.2⟩
theorem take_any (w0 w : World) (st : Ls) (X : Nat) (b : Bd) (p : Pt) (f : Nat) (hf : f < 20) (ht : Tab w0) (hb : b f = fz) (hX : w0.heap.size < X) (h : RdR w0 w st) (hx : BdX w X b p) :
    Calls Tryd.prog 49 #[(.pointer (some ⟨w0.heap.size, 0, none⟩)), .pointer (some ⟨X, 0, none⟩), .int .i64 (f : Int)] w (TkP w0 w X (setB b f (gK (kd f) st).1) (gK (kd f) st).2) := by
  obtain ⟨k3, k4, k5, k6⟩ := kd_inv f
  rcases kd_cases f with e | e | e | e | e | e | e
  · exact take_0 w0 w st X b p f hf e hb hX h hx
  · exact take_1 w0 w st X b p f hf e hb hX h hx
  · exact take_2 w0 w st X b p f hf e (by unfold kd at e; grind) hb hX h hx
  · obtain rfl := k3 e
    exact take_3 w0 w st X b p hb hX h hx
  · obtain rfl := k4 e
    exact take_4 w0 w st X b p hb hX h hx
  · obtain rfl := k5 e
    exact take_5 w0 w st X b p hb hX h hx
  · obtain rfl := k6 e
    exact take_6 w0 w st X b p ht hb hX h hx
end Go.Proofs.YtaooidckmepdeaaDoor
