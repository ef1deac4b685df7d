/- At Au Av Aw Ax in one text (wip/tools/merge4.py). -/
import Derived.Test.YtghdpapdnkibdaaGreatDoorZa
import Derived.Test.YtghdpapdnkibdaaGreatDoorLat
import Derived.Laws.Tables
namespace Go.Proofs.YtghdpapdnkibdaaGreatDoor
set_option linter.unusedSimpArgs false
set_option linter.unusedVariables false
set_option maxRecDepth 100000
open Go.RowKit Go.MapKept Go.Proofs
/-- The plan of 300 blocks and 16 inodes. -/
def pl3 : Pl := ⟨300, 16, 246, 247, 248, 250, 50⟩
def pla : Array Value := #[.int .i64 300, .int .i64 16, .int .i64 246, .int .i64 247, .int .i64 248, .int .i64 250, .int .i64 50]
theorem make3 (w : World) (hh : Hol w) : Calls Tryz.prog 9 #[.int .i64 300, .int .i64 16] w fun e w' => e = .returned (.tuple #[.agg pla, .int .i64 0]) ∧ KBel w w' := by
  have := make_any 300 16 w hh
  have e1 : imkE 300 16 = 0 := by decide +kernel
  have e2 : (imkP 300 16).v = .agg pla := by
    unfold imkP
    rw [if_pos e1]
    have : idataN 300 16 = 250 := by decide +kernel
    have m1 : mapN (300 - 247 - itabN 16) = 1 := by decide +kernel
    rw [this, m1]
    rfl
  rw [e1, e2] at this
  exact this
def PlAt (w : World) (x : Nat) : Prop := w.heap[x]? = some (.cells pla 27 (0, 0))
def Seven (x : Nat) (w : World) : Prop := w.cell? ⟨x, 0, none⟩ = some (.int .i64 300) ∧ w.cell? ⟨x, 1, none⟩ = some (.int .i64 16) ∧ w.cell? ⟨x, 2, none⟩ = some (.int .i64 246) ∧ w.cell? ⟨x, 3, none⟩ = some (.int .i64 247) ∧ w.cell? ⟨x, 4, none⟩ = some (.int .i64 248) ∧ w.cell? ⟨x, 5, none⟩ = some (.int .i64 250) ∧ w.cell? ⟨x, 6, none⟩ = some (.int .i64 50)
theorem PlAt.cells {w : World} {x : Nat} (h : PlAt w x) : Seven x w := by
  refine ⟨?_, ?_, ?_, ?_, ?_, ?_, ?_⟩ <;> rw [cell_of_row _ _ _ _ _ _ h] <;> rfl
theorem PlAt.blk {w w' : World} {x : Nat} (h : PlAt w x) (e : w'.heap[x]? = w.heap[x]?) : PlAt w' x := e.trans h
theorem PlAt.lt {w : World} {x : Nat} (h : PlAt w x) : x < w.heap.size := (Array.getElem?_eq_some_iff.1 h).1
def z7a : Array Value := #[.int .i64 0, .int .i64 0, .int .i64 0, .int .i64 0, .int .i64 0, .int .i64 0, .int .i64 0]
/-- What fresh leaves of the cache. -/
def freshV : Nat → List Nat := txV zs0 (fmX [] (fun _ => zeros))
def FreshPost (B : Nat) (w1 : World) (e : Ending) (w' : World) : Prop :=
  ∃ dp c a, e = .returned (.tuple #[.pointer (some ⟨c, 0, none⟩), .pointer (some ⟨a, 0, none⟩), .agg pla, .bool true]) ∧ BS B w1 [a] w' c dp 300 373 freshV tx0 ∧ AlAt w' a c 250 50 16
/-- Fresh, behind its boxes (x: the result's, y: the plan's): device, journal, cache. -/
structure Mid (B : Nat) (w1 W : World) (x y : Nat) : Prop where
  fr : Fr B [] w1 W
  pl : PlAt W y
  rs : W.heap[x]? = some (.cells z7a 27 (0, 0))
  ne : x ≠ y
  ge : B ≤ x ∧ B ≤ y
theorem Mid.start {B : Nat} {w1 W : World} {x y : Nat} (h : Mid B w1 W x y) : Fr B [x, y] W W :=
  Fr.start (fun z hz => by simp at hz; rcases hz with rfl | rfl; exact (Array.getElem?_eq_some_iff.1 h.rs).1; exact h.pl.lt) (Nat.le_trans h.fr.big h.fr.size) h.fr.pos h.fr.tab
theorem Mid.bs {B : Nat} {w1 W w' : World} {x y : Nat} (h : Mid B w1 W x y) {c j dp : Nat} (hF : Fr B [x, y] W w') (hC : CP B [x, y] w' c j dp (formatted (blank 300)).tick.flush [] false none) : BS B w1 [x, y] w' c dp 300 3 zs0 none ∧ PlAt w' y ∧ w'.heap[x]? = some (.cells z7a 27 (0, 0)) := by
  obtain ⟨r1, r2, r3, r4⟩ := formatted_blank 300 (by omega)
  refine ⟨⟨h.fr.trans hF (by simp), fun z hz => ?_, j, _, _, hC, ((Like.tick _).rest r1).flush, rfl, rfl, Nat.le_refl _⟩, h.pl.blk (hF.same _ (by simp)), (hF.same _ (by simp)).trans h.rs⟩
  have := hF.ltw z hz
  simp at hz
  rcases hz with rfl | rfl
  · exact ⟨h.ge.1, this⟩
  · exact ⟨h.ge.2, this⟩
end Go.Proofs.YtghdpapdnkibdaaGreatDoor
namespace Go.Proofs.YtghdpapdnkibdaaGreatDoor
set_option linter.unusedSimpArgs false
set_option linter.unusedVariables false
set_option maxRecDepth 100000
open Go.RowKit Go.MapKept Go.Proofs
/-- An Alloc beside the cache, and the two boxes. -/
structure FsS (B : Nat) (w1 : World) (w : World) (x y a c dp m : Nat) (V : Nat → List Nat) (X : Tx) : Prop where
  bs : BS B w1 [a, x, y] w c dp 300 m V X
  al : AlAt w a c 250 50 16
  pl : PlAt w y
  rs : w.heap[x]? = some (.cells z7a 27 (0, 0))
theorem FsS.after {B : Nat} {w1 w w' : World} {x y a c dp m m' : Nat} {V V' : Nat → List Nat} {X X' : Tx} (h : FsS B w1 w x y a c dp m V X) (hb : BS B w1 [a, x, y] w' c dp 300 m' V' X') (hs : Same [a, x, y] w w') : FsS B w1 w' x y a c dp m' V' X' :=
  ⟨hb, h.al.blk (hs _ (by simp)), h.pl.blk (hs _ (by simp)), (hs _ (by simp)).trans h.rs⟩
theorem FsS.below {B : Nat} {w1 w w' : World} {x y a c dp m : Nat} {V : Nat → List Nat} {X : Tx} (h : FsS B w1 w x y a c dp m V X) (hb : Below w.heap.size w w') : FsS B w1 w' x y a c dp m V X := h.after (h.bs.below hb).1 (h.bs.below hb).2
theorem seven_new {w : World} {x : Nat} (h : w.heap[x]? = some (.cells z7a 27 (0, 0))) : (w.cell? ⟨x, 0, none⟩ = some (.int .i64 0) ∧ w.cell? ⟨x, 1, none⟩ = some (.int .i64 0) ∧ w.cell? ⟨x, 2, none⟩ = some (.int .i64 0) ∧ w.cell? ⟨x, 3, none⟩ = some (.int .i64 0) ∧ w.cell? ⟨x, 4, none⟩ = some (.int .i64 0) ∧ w.cell? ⟨x, 5, none⟩ = some (.int .i64 0) ∧ w.cell? ⟨x, 6, none⟩ = some (.int .i64 0)) ∧ w.frozen? ⟨x, 0, none⟩ = false ∧ w.frozen? ⟨x, 1, none⟩ = false ∧ w.frozen? ⟨x, 2, none⟩ = false ∧ w.frozen? ⟨x, 3, none⟩ = false ∧ w.frozen? ⟨x, 4, none⟩ = false ∧ w.frozen? ⟨x, 5, none⟩ = false ∧ w.frozen? ⟨x, 6, none⟩ = false := by
  refine ⟨⟨?_, ?_, ?_, ?_, ?_, ?_, ?_⟩, frozen_of_row _ _ _ _ _ h, frozen_of_row _ _ _ _ _ h, frozen_of_row _ _ _ _ _ h, frozen_of_row _ _ _ _ _ h, frozen_of_row _ _ _ _ _ h, frozen_of_row _ _ _ _ _ h, frozen_of_row _ _ _ _ _ h⟩ <;> rw [cell_of_row _ _ _ _ _ _ h] <;> rfl
theorem Tryz.info27 : (Tryz.prog.info? 27).map (·.size) = some 7 := by kernel_rfl
theorem results_fresh {fn : Func} {p q u v : Tmp} (h : fn.results = #[.tmp p, .tmp q, .cell u 27, .tmp v]) (tmps : Array Value) (w : World) (g : Nat) (hu : tmps.getD u undef = .pointer (some ⟨g, 0, none⟩)) (hg : w.heap[g]? = some (.cells pla 27 (0, 0))) :
    (results fn tmps).run Tryz.prog w = .ok (.tuple #[tmps.getD p undef, tmps.getD q undef, .agg pla, tmps.getD v undef]) w := by
  have h2 := run_loadVar_row (P := Tryz.prog) w g 27 27 pla (0, 0) _ hg Tryz.underlying27 rfl Tryz.info27
  have hu2 : tmps[u]?.getD undef = .pointer (some ⟨g, 0, none⟩) := by simpa using hu
  simp only [results, h]
  simp [Sem.run_bind, Result.andThen, asAddr, hu2, h2]
set_option maxHeartbeats 1000000 in
theorem fresh_any {B : Nat} {w1 w : World} (hF : Fr B [] w1 w) (hh : Hol w) : Calls Tryz.prog 5 #[.int .i64 300, .int .i64 16] w (FreshPost B w1) := by
  have hbz : Below w.heap.size w (w.alloc (.cells z7a 27)) := (Below.refl _ _).alloc (Nat.le_refl _) _
  have HMK : Hid _ := make3 (w.alloc (.cells z7a 27)) (hh.below hbz)
  have HMID : Hid (∀ w2, KBel (w.alloc (.cells z7a 27)) w2 → Mid B w1 (w2.alloc (.cells pla 27)) w.heap.size w2.heap.size) := fun w2 hk => by
    have s0 : (w.alloc (.cells z7a 27)).heap.size = w.heap.size + 1 := by simp
    have hk3 : Below w2.heap.size w2 (w2.alloc (.cells pla 27)) := (Below.refl _ _).alloc (Nat.le_refl _) _
    have hsz := hk.size
    have hB := Nat.le_trans hF.big hF.size
    have r0 : (w.alloc (.cells z7a 27)).heap[w.heap.size]? = some (.cells z7a 27 (0, 0)) := heap_alloc_new _ _
    refine ⟨((hF.below hbz).below hk).below hk3, heap_alloc_new _ _, (hk3.block _ (by omega)).trans ((hk.block _ (by omega)).trans r0), by omega, by omega, by omega⟩
  have HN : Hid (∀ W x y, Mid B w1 W x y → Calls Tryz.prog 10 #[.int .i64 300] W fun e w' => ∃ p, e = .returned (.tuple #[.pointer (some ⟨p, 0, none⟩), .int .i64 0]) ∧ Fr B [x, y] W w' ∧ DP B [x, y] w' p (blank 300)) := fun W x y hM => by
    refine (newF hM.start 300 (by omega) (by omega)).mono ?_
    rintro e w' ⟨p, rfl, a, b, _⟩
    exact ⟨p, rfl, a, b⟩
  obtain ⟨r1, r2, r3, r4⟩ := formatted_blank 300 (by omega)
  have HFM : Hid (∀ W w' x y p, Fr B [x, y] W w' → DP B [x, y] w' p (blank 300) → Calls Tryz.prog 11 #[.pointer (some ⟨p, 0, none⟩)] w' fun e w'' => e = .returned (.int .i64 0) ∧ Fr B [x, y] W w'' ∧ DP B [x, y] w'' p (formatted (blank 300))) := fun W w' x y p h1 h2 => format_ok h1 h2 (show 246 ≤ 300 by omega) rfl (show 0 + 2 ≤ _ by omega)
  have HO : Hid (∀ W w' x y p, Fr B [x, y] W w' → DP B [x, y] w' p (formatted (blank 300)) → Calls Tryz.prog 12 #[.pointer (some ⟨p, 0, none⟩)] w' fun e w'' => ∃ j, e = .returned (.tuple #[.pointer (some ⟨j, 0, none⟩), .int .i64 0]) ∧ Fr B [x, y] W w'' ∧ JP B [x, y] w'' j p (formatted (blank 300)).tick.flush [] false ∧ w'.heap.size ≤ j) := fun W w' x y p h1 h2 => open_ok h1 h2 r1 (on_uncut r3) (by rw [r4]; omega)
  have HC : Hid (∀ W w' x y p j, Mid B w1 W x y → Fr B [x, y] W w' → JP B [x, y] w' j p (formatted (blank 300)).tick.flush [] false → Calls Tryz.prog 13 #[.pointer (some ⟨j, 0, none⟩)] w' fun e w'' => ∃ c, e = .returned (.pointer (some ⟨c, 0, none⟩)) ∧ BS B w1 [x, y] w'' c p 300 3 zs0 none ∧ PlAt w'' y ∧ w''.heap[x]? = some (.cells z7a 27 (0, 0))) := fun W w' x y p j hM h1 h2 => by
    refine (cnewF h1 h2).mono ?_
    rintro e w'' ⟨c, rfl, a, b, _⟩
    exact ⟨c, rfl, hM.bs a b⟩
  have HA : Hid (∀ w' x y c p, BS B w1 [x, y] w' c p 300 3 zs0 none → PlAt w' y → w'.heap[x]? = some (.cells z7a 27 (0, 0)) → Seven y w' ∧ Calls Tryz.prog 14 #[.pointer (some ⟨c, 0, none⟩), .agg pla] w' fun e w'' => ∃ a, e = .returned (.pointer (some ⟨a, 0, none⟩)) ∧ FsS B w1 w'' x y a c p 3 zs0 none) := fun w' x y c p hB hp hr => by
    refine ⟨hp.cells, (anew_any c 300 16 250 50 w').mono ?_⟩
    rintro e w'' ⟨rfl, ha, hk⟩
    refine ⟨_, rfl, hB.box hk (by omega) ha.lt, ha, hp.blk (hk.block _ hp.lt), (hk.block _ (Array.getElem?_eq_some_iff.1 hr).1).trans hr⟩
  have HB : Hid (∀ w' x y a c p m V, FsS B w1 w' x y a c p m V none → Calls Tryz.prog 15 #[.pointer (some ⟨c, 0, none⟩)] w' fun e w'' => e = .returned (.int .i64 0) ∧ Seven y w'' ∧ FsS B w1 w'' x y a c p m V tx0) := fun w' x y a c p m V h => by
    refine h.bs.begin.mono ?_
    rintro e w'' ⟨rfl, g, hs⟩
    have := h.after g hs
    exact ⟨rfl, this.pl.cells, this⟩
  have HG : Hid (∀ w' x y a c p m V, FsS B w1 w' x y a c p m V tx0 → Calls Tryz.prog 16 #[.pointer (some ⟨a, 0, none⟩)] w' fun e w'' => e = .returned (.int .i64 0) ∧ FsS B w1 w'' x y a c p m V (fmX [] (fun _ => zeros))) := fun w' x y a c p m V h => by
    refine (format_any h.bs h.al (by omega) (by omega)).mono ?_
    rintro e w'' ⟨rfl, g, hs⟩
    exact ⟨rfl, h.after g hs⟩
  have HCM : Hid (∀ w' x y a c p V, FsS B w1 w' x y a c p 3 V (fmX [] (fun _ => zeros)) → Calls Tryz.prog 17 #[.pointer (some ⟨c, 0, none⟩)] w' fun e w'' => e = .returned (.int .i64 0) ∧ Seven y w'' ∧ FsS B w1 w'' x y a c p 373 (txV V (fmX [] (fun _ => zeros))) none) := fun w' x y a c p V h => by
    refine (BS.commit h.bs (by omega) (by omega)).mono ?_
    rintro e w'' ⟨rfl, g, hs⟩
    have := h.after g hs
    exact ⟨rfl, this.pl.cells, this⟩
  have HE : Hid _ := @FsS.bs B w1
  have HS : Hid _ := @FsS.al B w1
  clear hbz hh r1 r2 r3 r4 hF HE HS
  unfold Seven at *
  unfold pla z7a at HMK HMID
  unfold pla at HA
  go_enter Tryz.func5, Tryz.ntmps5
  go_wp2_with (first
    | (go_at_call 9; refine Calls.mono HMK.out ?_; rintro e w2 ⟨rfl, hk2⟩; have hM := HMID.out w2 hk2)
    | (go_at_call 10; refine (HN.out _ _ _ hM).mono ?_; rintro e w3 ⟨p, rfl, hF3, hD3⟩)
    | (go_at_call 11; refine (HFM.out _ _ _ _ _ hF3 hD3).mono ?_; rintro e w4 ⟨rfl, hF4, hD4⟩)
    | (go_at_call 12; refine (HO.out _ _ _ _ _ hF4 hD4).mono ?_; rintro e w5 ⟨j, rfl, hF5, hJ5, _⟩)
    | (go_at_call 13; refine (HC.out _ _ _ _ _ _ hM hF5 hJ5).mono ?_; rintro e w6 ⟨c, rfl, hB6, hp6, hr6⟩; obtain ⟨⟨a0, a1, a2, a3, a4, a5, a6⟩, a7⟩ := HA.out _ _ _ _ _ hB6 hp6 hr6; have HA6 : Hid _ := a7; clear a7)
    | (go_at_call 14; refine Calls.mono HA6.out ?_; rintro e w7 ⟨a, rfl, hS7⟩)
    | (go_at_call 15; refine (HB.out _ _ _ _ _ _ _ _ hS7).mono ?_; rintro e w8 ⟨rfl, _, hS8⟩)
    | (go_at_call 16; refine (HG.out _ _ _ _ _ _ _ _ hS8).mono ?_; rintro e w9 ⟨rfl, hS9⟩)
    | (go_at_call 17; refine (HCM.out _ _ _ _ _ _ _ hS9).mono ?_; rintro e w10 ⟨rfl, h7, hS10⟩))
  have hne : w2.heap.size ≠ w.heap.size := fun q => hM.ne q.symm
  have hS10d := hS10.below (w' := w10.drew) ⟨rfl, rfl, rfl, Nat.le_refl _, fun _ _ => rfl⟩
  clear a0 a1 a2 a3 a4 a5 a6 HMK HMID HN HFM HO HC HA HA6 HG HCM hM hk2 hF3 hD3 hF4 hD4 hF5 hJ5 hB6 hp6 hr6 hS7 hS8 hS9 h7
  refine wp_region_lat (fun w' => w'.cell? ⟨w2.heap.size, 0, none⟩ = some (.int .i64 300) ∧ w'.cell? ⟨w2.heap.size, 1, none⟩ = some (.int .i64 16) ∧ w'.cell? ⟨w2.heap.size, 2, none⟩ = some (.int .i64 246) ∧ w'.cell? ⟨w2.heap.size, 3, none⟩ = some (.int .i64 247) ∧ w'.cell? ⟨w2.heap.size, 4, none⟩ = some (.int .i64 248) ∧ w'.cell? ⟨w2.heap.size, 5, none⟩ = some (.int .i64 250) ∧ w'.cell? ⟨w2.heap.size, 6, none⟩ = some (.int .i64 50)) 9 (by kernel_rfl) hS10d.pl.cells (fun hHeld => ?_)
  refine lat_take 0 (v := ?_) rfl (by kernel_rfl) (by kernel_rfl) (by kernel_rfl) (by kernel_rfl) (fun _ _ _ h => h) (by rfl) ?_ (by assumption) ?_
  rotate_left
  · (intro w hSw; obtain ⟨z0, z1, z2, z3, z4, z5, z6⟩ := hSw; go_simp <;> with_reducible rfl)
  try simp only [Act.put, List.setIfInBounds_toArray, List.set_cons_zero, List.set_cons_succ]
  refine lat_take 1 (v := ?_) rfl (by kernel_rfl) (by kernel_rfl) (by kernel_rfl) (by kernel_rfl) (fun _ _ _ h => h) (by rfl) ?_ (by assumption) ?_
  rotate_left
  · (intro w hSw; obtain ⟨z0, z1, z2, z3, z4, z5, z6⟩ := hSw; go_simp <;> with_reducible rfl)
  try simp only [Act.put, List.setIfInBounds_toArray, List.set_cons_zero, List.set_cons_succ]
  refine lat_take 2 (v := ?_) rfl (by kernel_rfl) (by kernel_rfl) (by kernel_rfl) (by kernel_rfl) (fun _ _ _ h => h) (by rfl) ?_ (by assumption) ?_
  rotate_left
  · (intro w hSw; obtain ⟨z0, z1, z2, z3, z4, z5, z6⟩ := hSw; go_simp <;> with_reducible rfl)
  try simp only [Act.put, List.setIfInBounds_toArray, List.set_cons_zero, List.set_cons_succ]
  refine lat_take 3 (v := ?_) rfl (by kernel_rfl) (by kernel_rfl) (by kernel_rfl) (by kernel_rfl) (fun _ _ _ h => h) (by rfl) ?_ (by assumption) ?_
  rotate_left
  · (intro w hSw; obtain ⟨z0, z1, z2, z3, z4, z5, z6⟩ := hSw; go_simp <;> with_reducible rfl)
  try simp only [Act.put, List.setIfInBounds_toArray, List.set_cons_zero, List.set_cons_succ]
  refine lat_one 4 rfl (by kernel_rfl) (by decide) (by rfl) (fun K hK => ?_)
  go_simp
  refine Calls.mono (HB.out _ _ _ _ _ _ _ _ hS10d) ?_
  rintro e w11 ⟨rfl, h8, hS11⟩
  dsimp only
  refine hK.out _ _ h8 (fun hHeld2 => ?_)
  clear hK hHeld hS10d hS10
  try simp only [Act.put, List.setIfInBounds_toArray, List.set_cons_zero, List.set_cons_succ]
  refine lat_take 5 (v := ?_) rfl (by kernel_rfl) (by kernel_rfl) (by kernel_rfl) (by kernel_rfl) (fun _ _ _ h => h) (by rfl) ?_ (by assumption) ?_
  rotate_left
  · (intro w hSw; obtain ⟨z0, z1, z2, z3, z4, z5, z6⟩ := hSw; go_simp <;> with_reducible rfl)
  try simp only [Act.put, List.setIfInBounds_toArray, List.set_cons_zero, List.set_cons_succ]
  refine lat_take 6 (v := ?_) rfl (by kernel_rfl) (by kernel_rfl) (by kernel_rfl) (by kernel_rfl) (fun _ _ _ h => h) (by rfl) ?_ (by assumption) ?_
  rotate_left
  · (intro w hSw; obtain ⟨z0, z1, z2, z3, z4, z5, z6⟩ := hSw; go_simp <;> with_reducible rfl)
  try simp only [Act.put, List.setIfInBounds_toArray, List.set_cons_zero, List.set_cons_succ]
  refine lat_take 7 (v := ?_) rfl (by kernel_rfl) (by kernel_rfl) (by kernel_rfl) (by kernel_rfl) (fun _ _ _ h => h) (by rfl) ?_ (by assumption) ?_
  rotate_left
  · (intro w hSw; obtain ⟨z0, z1, z2, z3, z4, z5, z6⟩ := hSw; go_simp <;> with_reducible rfl)
  try simp only [Act.put, List.setIfInBounds_toArray, List.set_cons_zero, List.set_cons_succ]
  refine lat_one 8 rfl (by kernel_rfl) (by decide) (by rfl) (fun K hK => ?_)
  refine wp_store_row 27 _ _ rfl w.heap.size pla rfl rfl 27 z7a hS11.rs (by kernel_rfl) rfl (by kernel_rfl) ?_
  have hk12 : Keeps [w.heap.size] w11 (w11.setRow w.heap.size pla) := ⟨rfl, rfl, rfl, by simp, fun z _ hz => setRow_other _ _ _ _ (by simpa using hz)⟩
  have hr12 : (w11.setRow w.heap.size pla).heap[w.heap.size]? = some (.cells pla 27 (0, 0)) := setRow_heap _ _ _ _ _ _ hS11.rs
  have hp12 : PlAt (w11.setRow w.heap.size pla) w2.heap.size := hS11.pl.blk (hk12.block _ hS11.pl.lt (by simp; exact hne))
  refine hK.out _ _ hp12.cells (fun hHeld3 => ?_)
  clear hK hHeld2
  try simp only [Act.put, List.setIfInBounds_toArray, List.set_cons_zero, List.set_cons_succ]
  refine lat_last 9 rfl (by kernel_rfl) (by decide) (by kernel_rfl) (by rfl) (fun K hK => ?_)
  go_simp
  refine hK.out _ _ ?_
  clear hK hHeld3
  try simp only [Act.put, List.setIfInBounds_toArray, List.set_cons_zero, List.set_cons_succ]
  have HB12 : Hid (BS B w1 [a] (w11.setRow w.heap.size pla) c p 300 373 freshV tx0) := (hS11.bs.keeps hk12 (by simp)).ext (by simp)
  have HA12 : Hid (a ≠ w.heap.size → AlAt (w11.setRow w.heap.size pla) a c 250 50 16) := fun q => hS11.al.blk (hk12.block _ hS11.al.lt (by simp; exact q))
  go_wp2
  have hax : a ≠ w.heap.size := fun q => by
    have h1 := hS11.al
    have h2 := hS11.rs
    unfold AlAt at h1
    rw [q, h2] at h1
    injection h1 with h1
    injection h1 with _ h1
    cases h1
  refine bodyPost_ret (results_fresh (p := 4) (q := 5) (u := 6) (v := 7) (by rfl) _ _ w.heap.size (by rfl) hr12) rfl ⟨p, c, a, rfl, HB12.out, HA12.out hax⟩
end Go.Proofs.YtghdpapdnkibdaaGreatDoor
namespace Go.Proofs.YtghdpapdnkibdaaGreatDoor
set_option linter.unusedSimpArgs false
set_option linter.unusedVariables false
set_option maxRecDepth 100000
open Go.RowKit Go.MapKept Go.Proofs
def upd (tk : Nat → Bool) (j : Nat) (v : Bool) : Nat → Bool := fun i => if i = j then v else tk i
/-- Taken: tk. -/
structure LS (B : Nat) (w1 : World) (E : List Nat) (w : World) (a c dp : Nat) (tk : Nat → Bool) : Prop where
  mem : a ∈ E
  al : AlAt w a c 250 50 16
  tx : ∃ hl fu, BS B w1 E w c dp 300 373 freshV (some (hl, fu)) ∧ fullB hl 247 = false ∧ ∀ i, i < 50 → tst (txV freshV (some (hl, fu)) 247) i = tk i
theorem fullB_add (hl : List Nat) : fullB (addK hl 247) 247 = false := by
  unfold fullB
  simp [mem_addK]
theorem txV_mark (V : Nat → List Nat) (hl : List Nat) (fu : Nat → List Nat) (q : List Nat) : txV V (some (addK hl 247, updK fu 247 q)) 247 = q := by
  unfold txV
  simp [mem_addK, updK]
section
variable {B : Nat} {w1 w w' : World} {E : List Nat} {a c dp : Nat} {tk : Nat → Bool}
theorem LS.fr (h : LS B w1 E w a c dp tk) : Fr B [] w1 w := by
  obtain ⟨hl, fu, h1, _⟩ := h.tx
  exact h1.fr
theorem LS.below (h : LS B w1 E w a c dp tk) (hb : Below w.heap.size w w') : LS B w1 E w' a c dp tk ∧ Same E w w' := by
  obtain ⟨hm, ha, hl, fu, h1, h2, h3⟩ := h
  obtain ⟨g1, g2⟩ := h1.below hb
  exact ⟨⟨hm, ha.blk (g2 a hm), hl, fu, g1, h2, h3⟩, g2⟩
theorem LS.box {x : Nat} (h : LS B w1 E w a c dp tk) (hb : Below w.heap.size w w') (hx : w.heap.size ≤ x) (hlt : x < w'.heap.size) : LS B w1 (x :: E) w' a c dp tk := by
  obtain ⟨hm, ha, hl, fu, h1, h2, h3⟩ := h
  exact ⟨by simp [hm], ha.blk (hb.block _ ha.lt), hl, fu, h1.box hb hx hlt, h2, h3⟩
theorem LS.set {x : Nat} (h : LS B w1 E w a c dp tk) (hx : x ∈ E) (hne : x ≠ a) (o : Nat) (v : Value) : LS B w1 E (w.setCell ⟨x, o, none⟩ v) a c dp tk := by
  obtain ⟨hm, ha, hl, fu, h1, h2, h3⟩ := h
  have hk : Keeps [x] w (w.setCell ⟨x, o, none⟩ v) := (Keeps.refl _ _).setCell _ _ (by simp)
  exact ⟨hm, ha.blk (hk.block _ ha.lt (by simp; exact Ne.symm hne)), hl, fu, h1.keeps hk (by simp [hx]), h2, h3⟩
def LTake (B : Nat) (w1 : World) (E : List Nat) (w : World) (a c dp : Nat) (tk : Nat → Bool) (e : Ending) (w' : World) : Prop :=
  (e = .returned (.tuple #[.int .i64 0, .int .i64 3]) ∧ (∀ i, i < 50 → tk i = true) ∧ LS B w1 E w' a c dp tk ∧ Same E w w') ∨
  (∃ j : Nat, e = .returned (.tuple #[.int .i64 (250 + (j : Int)), .int .i64 0]) ∧ j < 50 ∧ tk j = false ∧ (∀ i, i < j → tk i = true) ∧ LS B w1 E w' a c dp (upd tk j true) ∧ Same E w w')
theorem LS.take (h : LS B w1 E w a c dp tk) : Calls Tryz.prog 6 #[.pointer (some ⟨a, 0, none⟩)] w (LTake B w1 E w a c dp tk) := by
  obtain ⟨hm, ha, hl, fu, h1, h2, h3⟩ := h
  obtain ⟨hq, hqb⟩ := h1.cs.tell (k := 247) (by omega) (by omega)
  refine (takeBlock_any h1 ha (by omega) (by omega) h2 (by omega) (by omega) (by omega) (by omega)).mono ?_
  rintro e w' (⟨rfl, hf, g1, g2⟩ | ⟨j, rfl, hf, g1, g2⟩)
  · refine .inl ⟨rfl, fun i hi => ?_, ⟨hm, ha.blk (g2 a hm), hl, fu, g1, h2, h3⟩, g2⟩
    rcases hf with ⟨k, hk, _⟩ | ⟨_, hf⟩
    · omega
    · rw [← h3 i hi]; exact hf i (by omega) (by omega)
  · rcases hf with ⟨k, hk, k1, k2, k3, k4⟩ | ⟨hk, _⟩
    · obtain rfl : j = k := by omega
      have hj : j < 50 := by omega
      refine .inr ⟨j, rfl, hj, by rw [← h3 j hj]; exact k3, fun i hi => by rw [← h3 i (by omega)]; exact k4 i hi, ⟨hm, ha.blk (g2 a hm), _, _, g1, fullB_add hl, fun i hi => ?_⟩, g2⟩
      rw [txV_mark, tst_setL _ _ _ _ hqb (by omega)]
      unfold upd
      by_cases e : i = j
      · subst e; simp
      · rw [if_neg (by omega), if_neg e]; exact h3 i hi
    · omega
def LGive (B : Nat) (w1 : World) (E : List Nat) (w : World) (a c dp : Nat) (tk : Nat → Bool) (j : Nat) (e : Ending) (w' : World) : Prop :=
  (e = .returned (.int .i64 1) ∧ tk j = false ∧ LS B w1 E w' a c dp tk ∧ Same E w w') ∨ (e = .returned (.int .i64 0) ∧ tk j = true ∧ LS B w1 E w' a c dp (upd tk j false) ∧ Same E w w')
theorem LS.give (h : LS B w1 E w a c dp tk) (j : Nat) (hj : j < 50) (z : Int) (hz : z = 250 + (j : Int)) : Calls Tryz.prog 7 #[.pointer (some ⟨a, 0, none⟩), .int .i64 z] w (LGive B w1 E w a c dp tk j) := by
  subst hz
  obtain ⟨hm, ha, hl, fu, h1, h2, h3⟩ := h
  obtain ⟨hq, hqb⟩ := h1.cs.tell (k := 247) (by omega) (by omega)
  refine (giveBlock_in h1 ha (by omega) (by omega) h2 (by omega) (by omega) (by omega) j (by omega)).mono ?_
  rintro e w' (⟨ht, rfl, g1, g2⟩ | ⟨ht, rfl, g1, g2⟩)
  · exact .inl ⟨rfl, by rw [← h3 j hj]; exact ht, ⟨hm, ha.blk (g2 a hm), hl, fu, g1, h2, h3⟩, g2⟩
  · refine .inr ⟨rfl, by rw [← h3 j hj]; exact ht, ⟨hm, ha.blk (g2 a hm), _, _, g1, fullB_add hl, fun i hi => ?_⟩, g2⟩
    rw [txV_mark, tst_setL _ _ _ _ hqb (by omega)]
    unfold upd
    by_cases e : i = j
    · subst e; simp
    · rw [if_neg (by omega), if_neg e]; exact h3 i hi
theorem LS.abort (h : LS B w1 E w a c dp tk) : Calls Tryz.prog 8 #[.pointer (some ⟨c, 0, none⟩)] w fun e w' => e = .returned (.int .i64 0) ∧ Fr B [] w1 w' := by
  obtain ⟨hm, ha, hl, fu, h1, h2, h3⟩ := h
  refine h1.abort.mono ?_
  rintro e w' ⟨rfl, g, _⟩
  exact ⟨rfl, g.fr⟩
end
theorem rep_get : ∀ (n i : Nat), (List.replicate n 0).getD i 0 = 0
  | 0, i => by simp
  | n + 1, 0 => rfl
  | n + 1, i + 1 => by
    rw [List.replicate_succ]
    exact rep_get n i
theorem tst_zeros (i : Nat) : tst zeros i = false := by
  have : zeros.getD (i / 8) 0 = 0 := rep_get 512 _
  unfold tst
  rw [this]
  simp
theorem freshV_247 : freshV 247 = zeros := by
  unfold freshV fmX txV
  simp [mem_addK, updK, rsL]
theorem FreshPost.ls {B : Nat} {w1 w' : World} {e : Ending} (h : FreshPost B w1 e w') : ∃ dp c a, e = .returned (.tuple #[.pointer (some ⟨c, 0, none⟩), .pointer (some ⟨a, 0, none⟩), .agg pla, .bool true]) ∧ LS B w1 [a] w' a c dp (fun _ => false) := by
  obtain ⟨dp, c, a, rfl, h1, h2⟩ := h
  refine ⟨dp, c, a, rfl, by simp, h2, [], _, h1, rfl, fun i hi => ?_⟩
  have : txV freshV (some ([], fun _ => zeros)) 247 = zeros := by
    rw [← freshV_247]; unfold txV; simp
  rw [this]
  exact tst_zeros i
theorem Fr.hol {B : Nat} {w1 w : World} {E : List Nat} (h : Fr B E w1 w) (hh : Hol w1) : Hol w := by
  obtain ⟨a, b, c⟩ := hh
  have hb : w.heap[0]? = w1.heap[0]? := h.bel.block 0 (by have := h.pos; omega)
  exact ⟨(cell_blk hb).trans a, (cell_blk hb).trans b, (cell_blk hb).trans c⟩
end Go.Proofs.YtghdpapdnkibdaaGreatDoor
namespace Go.Proofs.YtghdpapdnkibdaaGreatDoor
set_option linter.unusedSimpArgs false
set_option linter.unusedVariables false
set_option maxRecDepth 100000
open Go.RowKit Go.MapKept Go.Proofs
section
variable {B : Nat} {w1 w w' : World} {E : List Nat} {a c dp : Nat} {tk : Nat → Bool}
theorem LS.take_is (h : LS B w1 E w a c dp tk) (j : Nat) (hj : j < 50) (h0 : tk j = false) (h1 : ∀ i, i < j → tk i = true) (z : Int) (hz : z = 250 + (j : Int)) :
    Calls Tryz.prog 6 #[.pointer (some ⟨a, 0, none⟩)] w fun e w' => e = .returned (.tuple #[.int .i64 z, .int .i64 0]) ∧ LS B w1 E w' a c dp (upd tk j true) ∧ Same E w w' := by
  subst hz
  refine h.take.mono ?_
  rintro e w' (⟨rfl, hf, _⟩ | ⟨k, rfl, hk, k0, k1, g1, g2⟩)
  · have := hf j hj; rw [h0] at this; cases this
  · obtain rfl : k = j := by
      rcases Nat.lt_trichotomy k j with q | q | q
      · have := h1 k q; rw [k0] at this; cases this
      · exact q
      · have := k1 j q; rw [h0] at this; cases this
    exact ⟨rfl, g1, g2⟩
theorem LS.take_full (h : LS B w1 E w a c dp tk) (h1 : ∀ i, i < 50 → tk i = true) :
    Calls Tryz.prog 6 #[.pointer (some ⟨a, 0, none⟩)] w fun e w' => e = .returned (.tuple #[.int .i64 0, .int .i64 3]) ∧ LS B w1 E w' a c dp tk ∧ Same E w w' := by
  refine h.take.mono ?_
  rintro e w' (⟨rfl, hf, g1, g2⟩ | ⟨k, rfl, hk, k0, _⟩)
  · exact ⟨rfl, g1, g2⟩
  · have := h1 k hk; rw [k0] at this; cases this
theorem LS.give_yes (h : LS B w1 E w a c dp tk) (j : Nat) (hj : j < 50) (h0 : tk j = true) (z : Int) (hz : z = 250 + (j : Int)) :
    Calls Tryz.prog 7 #[.pointer (some ⟨a, 0, none⟩), .int .i64 z] w fun e w' => e = .returned (.int .i64 0) ∧ LS B w1 E w' a c dp (upd tk j false) ∧ Same E w w' := by
  refine (h.give j hj z hz).mono ?_
  rintro e w' (⟨rfl, hf, _⟩ | ⟨rfl, _, g1, g2⟩)
  · rw [h0] at hf; cases hf
  · exact ⟨rfl, g1, g2⟩
theorem LS.give_no (h : LS B w1 E w a c dp tk) (j : Nat) (hj : j < 50) (h0 : tk j = false) (z : Int) (hz : z = 250 + (j : Int)) :
    Calls Tryz.prog 7 #[.pointer (some ⟨a, 0, none⟩), .int .i64 z] w fun e w' => e = .returned (.int .i64 1) ∧ LS B w1 E w' a c dp tk ∧ Same E w w' := by
  refine (h.give j hj z hz).mono ?_
  rintro e w' (⟨rfl, _, g1, g2⟩ | ⟨rfl, hf, _⟩)
  · exact ⟨rfl, g1, g2⟩
  · rw [h0] at hf; cases hf
end
theorem one_first : ∀ i, i < 1 → upd (fun _ => false) 0 true i = true := fun i hi => by
  have h0 : i = 0 := by omega
  subst h0; rfl
theorem awake_any {B : Nat} {w1 w : World} (hF : Fr B [] w1 w) (hh : Hol w) : Calls Tryz.prog 4 #[] w fun e w' => e = .returned (.bool true) ∧ Fr B [] w1 w' := by
  have HF : Hid (Calls Tryz.prog 5 #[.int .i64 300, .int .i64 16] w fun e w' => ∃ dp c a, e = .returned (.tuple #[.pointer (some ⟨c, 0, none⟩), .pointer (some ⟨a, 0, none⟩), .agg pla, .bool true]) ∧ LS B w1 [w'.heap.size, a] (w'.alloc (.cells pla 27)) a c dp (fun _ => false) ∧ PlAt (w'.alloc (.cells pla 27)) w'.heap.size) := (fresh_any hF hh).mono fun e w' h => by
    obtain ⟨dp, c, a, rfl, hS⟩ := h.ls
    exact ⟨dp, c, a, rfl, hS.box ((Below.refl _ _).alloc (Nat.le_refl _) _) (Nat.le_refl _) (by simp), heap_alloc_new _ _⟩
  have HT : Hid (∀ (j : Nat) (z : Int), j < 50 → z = 250 + (j : Int) → ∀ (x : Nat) (v : World) a c dp (tk : Nat → Bool), LS B w1 [x, a] v a c dp tk → PlAt v x → tk j = false → (∀ i, i < j → tk i = true) → Calls Tryz.prog 6 #[.pointer (some ⟨a, 0, none⟩)] v fun e v' => e = .returned (.tuple #[.int .i64 z, .int .i64 0]) ∧ LS B w1 [x, a] v' a c dp (upd tk j true) ∧ PlAt v' x ∧ v'.cell? ⟨x, 5, none⟩ = some (.int .i64 250)) := fun j z hj hz x v a c dp tk h hp h0 h1 => by
    refine (h.take_is j hj h0 h1 z hz).mono ?_
    rintro e v' ⟨rfl, g1, g2⟩
    have hp' := hp.blk (g2 x (by simp))
    exact ⟨rfl, g1, hp', hp'.cells.2.2.2.2.2.1⟩
  have HG : Hid (∀ (x : Nat) (v : World) a c dp (tk : Nat → Bool), LS B w1 [x, a] v a c dp tk → PlAt v x → tk 0 = true → Calls Tryz.prog 7 #[.pointer (some ⟨a, 0, none⟩), .int .i64 250] v fun e v' => e = .returned (.int .i64 0) ∧ LS B w1 [x, a] v' a c dp (upd tk 0 false) ∧ PlAt v' x ∧ v'.cell? ⟨x, 5, none⟩ = some (.int .i64 250)) := fun x v a c dp tk h hp h0 => by
    refine (h.give_yes 0 (by omega) h0 250 rfl).mono ?_
    rintro e v' ⟨rfl, g1, g2⟩
    have hp' := hp.blk (g2 x (by simp))
    exact ⟨rfl, g1, hp', hp'.cells.2.2.2.2.2.1⟩
  clear hF hh
  unfold pla at HF
  go_enter Tryz.func4, Tryz.ntmps4
  go_wp2_with (first
    | (go_at_call 5; refine Calls.mono HF.out ?_; rintro e w2 ⟨dp, c, a, rfl, hS2, hp2⟩; have tok0 : True := trivial)
    | (go_at_call 6; have _t := tok0; refine (HT.out 0 250 (by omega) rfl _ _ _ _ _ _ hS2 hp2 rfl (fun i hi => by omega)).mono ?_; clear tok0 _t; rintro e w3 ⟨rfl, hS3, hp3, _⟩; have tok1 : True := trivial)
    | (go_at_call 6; have _t := tok1; refine (HT.out 1 251 (by omega) rfl _ _ _ _ _ _ hS3 hp3 rfl one_first).mono ?_; clear tok1 _t; rintro e w4 ⟨rfl, hS4, hp4, k4⟩; have tok2 : True := trivial)
    | (go_at_call 7; refine (HG.out _ _ _ _ _ _ hS4 hp4 rfl).mono ?_; rintro e w5 ⟨rfl, hS5, hp5, k5⟩)
    | (go_at_call 6; have _t := tok2; refine (HT.out 0 250 (by omega) rfl _ _ _ _ _ _ hS5 hp5 rfl (fun i hi => by omega)).mono ?_; clear tok2 _t; rintro e w6 ⟨rfl, hS6, hp6, k6⟩)
    | (go_at_call 8; refine hS6.abort.mono ?_; rintro e w7 ⟨rfl, hF7⟩))
  go_ret
  exact ⟨rfl, hF7⟩
end Go.Proofs.YtghdpapdnkibdaaGreatDoor
namespace Go.Proofs.YtghdpapdnkibdaaGreatDoor
set_option linter.unusedSimpArgs false
set_option linter.unusedVariables false
set_option maxRecDepth 100000
open Go.RowKit Go.MapKept Go.Proofs
theorem Fr.law {w : World} (ht : Tab w) : Fr w.heap.size [] w w := Fr.start (by simp) (Nat.le_refl _) (World.block_lt_of_cell? _ _ (ht 0 (by omega))) ht
/-- Which of the fifty are taken, as the law notes it. -/
def tkv (tk : Nat → Bool) : Array Value := ((List.range 50).map fun k => Value.bool (tk k)).toArray
theorem tkv_get (tk : Nat → Bool) (k : Nat) (h : k < 50) : (tkv tk)[k]? = some (.bool (tk k)) := by simp [tkv, h]
theorem tkv_set (tk : Nat → Bool) (K : Nat) (v : Bool) (hK : K < 50) : (tkv tk).setIfInBounds K (.bool v) = tkv (upd tk K v) := by
  apply Array.ext_getElem?
  intro i
  rw [Array.getElem?_setIfInBounds]
  by_cases hi : i < 50
  · rw [tkv_get _ _ hi, tkv_get _ _ hi]
    by_cases e : K = i
    · subst e; simp [tkv, hK, upd]
    · rw [if_neg e]
      have : upd tk K v i = tk i := by unfold upd; rw [if_neg (by omega)]
      rw [this]
  · have h1 : (tkv tk)[i]? = none := by simp [tkv]; omega
    have h2 : (tkv (upd tk K v))[i]? = none := by simp [tkv]; omega
    rw [h1, h2]
    have : K ≠ i := by omega
    rw [if_neg this]
theorem made50 : (madeCells (Value.cells (.bool false)) (50 * 1)).toList = (tkv (fun _ => false)).toList := by kernel_rfl
theorem Tryz.info4 : (Tryz.prog.info? 4).map (fun i => (i.zero, i.size, i.bytes)) = some (some (.bool false), 1, 1) := by kernel_rfl
/-- The law's state: t: its notes, x: the plan's box. -/
structure WS (B : Nat) (w1 w : World) (t x a c dp : Nat) (tk : Nat → Bool) : Prop where
  ls : LS B w1 [t, x, a] w a c dp tk
  pl : PlAt w x
  nt : w.heap[t]? = some (.cells (tkv tk) 4 (0, 0))
  ne : t ≠ a ∧ t ≠ x
section
variable {B : Nat} {w1 w w' : World} {t x a c dp : Nat} {tk : Nat → Bool}
theorem WS.cell (h : WS B w1 w t x a c dp tk) (k : Nat) (hk : k < 50) : w.cell? ⟨t, k, none⟩ = some (.bool (tk k)) := by
  rw [cell_of_row _ _ _ _ _ _ h.nt, tkv_get _ _ hk]
theorem WS.plan (h : WS B w1 w t x a c dp tk) : w.cell? ⟨x, 5, none⟩ = some (.int .i64 250) ∧ w.cell? ⟨x, 6, none⟩ = some (.int .i64 50) := ⟨h.pl.cells.2.2.2.2.2.1, h.pl.cells.2.2.2.2.2.2⟩
/-- Behind a call that told tk', the notes are as they were; then they are noted. -/
structure WP (B : Nat) (w1 w : World) (t x a c dp : Nat) (tk tk' : Nat → Bool) : Prop where
  ls : LS B w1 [t, x, a] w a c dp tk'
  pl : PlAt w x
  nt : w.heap[t]? = some (.cells (tkv tk) 4 (0, 0))
  ne : t ≠ a ∧ t ≠ x
theorem WP.facts {tk' : Nat → Bool} (h : WP B w1 w t x a c dp tk tk') : w.cell? ⟨x, 5, none⟩ = some (.int .i64 250) ∧ w.cell? ⟨x, 6, none⟩ = some (.int .i64 50) ∧ ∀ k, k < 50 → w.cell? ⟨t, k, none⟩ = some (.bool (tk k)) ∧ w.frozen? ⟨t, k, none⟩ = false :=
  ⟨h.pl.cells.2.2.2.2.2.1, h.pl.cells.2.2.2.2.2.2, fun k hk => ⟨by rw [cell_of_row _ _ _ _ _ _ h.nt, tkv_get _ _ hk], frozen_of_row _ _ _ _ _ h.nt⟩⟩
theorem WS.after {tk' : Nat → Bool} (h : WS B w1 w t x a c dp tk) (g : LS B w1 [t, x, a] w' a c dp tk') (hs : Same [t, x, a] w w') : WP B w1 w' t x a c dp tk tk' :=
  ⟨g, h.pl.blk (hs _ (by simp)), (hs _ (by simp)).trans h.nt, h.ne⟩
theorem WP.note {j : Nat} {v : Bool} (h : WP B w1 w t x a c dp tk (upd tk j v)) (hj : j < 50) : WS B w1 (w.setCell ⟨t, j, none⟩ (.bool v)) t x a c dp (upd tk j v) := by
  refine ⟨h.ls.set (by simp) h.ne.1 _ _, h.pl.blk (heap_setCell_other _ _ _ _ (Ne.symm h.ne.2)), ?_, h.ne⟩
  rw [heap_setCell_same _ _ _ _ _ _ h.nt, tkv_set _ _ _ hj]
theorem WS.below (h : WS B w1 w t x a c dp tk) (hb : Below w.heap.size w w') : WS B w1 w' t x a c dp tk := by
  obtain ⟨g1, g2⟩ := h.ls.below hb
  exact ⟨g1, h.pl.blk (g2 _ (by simp)), (g2 _ (by simp)).trans h.nt, h.ne⟩
theorem WP.same (h : WP B w1 w t x a c dp tk tk) : WS B w1 w t x a c dp tk := ⟨h.ls, h.pl, h.nt, h.ne⟩
theorem upd_self {tk : Nat → Bool} {j : Nat} {v : Bool} (h : tk j = v) : upd tk j v = tk := by
  funext i
  unfold upd
  by_cases e : i = j
  · rw [if_pos e, e, h]
  · rw [if_neg e]
theorem WS.take (h : WS B w1 w t x a c dp tk) (j : Nat) (hj : j < 50) (h0 : tk j = false) (h1 : ∀ i, i < j → tk i = true) :
    Calls Tryz.prog 6 #[.pointer (some ⟨a, 0, none⟩)] w fun e w' => e = .returned (.tuple #[.int .i64 (250 + (j : Int)), .int .i64 0]) ∧ WP B w1 w' t x a c dp tk (upd tk j true) := by
  refine (h.ls.take_is j hj h0 h1 _ rfl).mono ?_
  rintro e w' ⟨rfl, g1, g2⟩
  exact ⟨rfl, h.after g1 g2⟩
theorem WS.full (h : WS B w1 w t x a c dp tk) (h1 : ∀ i, i < 50 → tk i = true) :
    Calls Tryz.prog 6 #[.pointer (some ⟨a, 0, none⟩)] w fun e w' => e = .returned (.tuple #[.int .i64 0, .int .i64 3]) ∧ WP B w1 w' t x a c dp tk tk := by
  refine (h.ls.take_full h1).mono ?_
  rintro e w' ⟨rfl, g1, g2⟩
  exact ⟨rfl, h.after g1 g2⟩
/-- GiveBlock: OK just where it is taken. -/
theorem WS.give (h : WS B w1 w t x a c dp tk) (j : Nat) (hj : j < 50) :
    Calls Tryz.prog 7 #[.pointer (some ⟨a, 0, none⟩), .int .i64 (250 + (j : Int))] w fun e w' => ∃ er : Int, e = .returned (.int .i64 er) ∧ (er == 0) = tk j ∧ WP B w1 w' t x a c dp tk (upd tk j false) := by
  cases h0 : tk j
  · refine (h.ls.give_no j hj h0 _ rfl).mono ?_
    rintro e w' ⟨rfl, g1, g2⟩
    refine ⟨1, rfl, rfl, ?_⟩
    rw [upd_self h0]
    exact h.after g1 g2
  · refine (h.ls.give_yes j hj h0 _ rfl).mono ?_
    rintro e w' ⟨rfl, g1, g2⟩
    exact ⟨0, rfl, rfl, h.after g1 g2⟩
end
/-- The least that is free, or none. -/
theorem least_or (tk : Nat → Bool) (n : Nat) : (∀ i, i < n → tk i = true) ∨ ∃ j, j < n ∧ tk j = false ∧ ∀ i, i < j → tk i = true := by
  induction n with
  | zero => exact .inl fun i hi => by omega
  | succ n ih =>
    rcases ih with h | ⟨j, h1, h2, h3⟩
    · cases e : tk n
      · exact .inr ⟨n, by omega, e, h⟩
      · exact .inl fun i hi => by
          rcases Nat.lt_or_ge i n with q | q
          · exact h i q
          · obtain rfl : i = n := by omega
            exact e
    · exact .inr ⟨j, by omega, h2, h3⟩
set_option maxHeartbeats 1000000 in
theorem allocLeast_walk (a0 : Option Addr) (cap0 : Nat) (l0 : List Int) (w : World) (ht : Tab w) (hh : Hol w) (w0 : RowI w a0 l0) (m0 : l0.length ≤ maxLen) :
    Calls Tryz.prog 3 #[.slice a0 l0.length cap0] w fun e w' => e = .returned (.bool true) ∧ Below w.heap.size w w' := by
  have hF := Fr.law ht
  have HAW : Hid (∀ w', Fr w.heap.size [] w w' → Calls Tryz.prog 4 #[] w' fun e w'' => e = .returned (.bool true) ∧ Fr w.heap.size [] w w'') := fun w' h => awake_any h (h.hol hh)
  have HF : Hid (Calls Tryz.prog 5 #[.int .i64 300, .int .i64 16] w fun e w' => ∃ dp c a, e = .returned (.tuple #[.pointer (some ⟨c, 0, none⟩), .pointer (some ⟨a, 0, none⟩), .agg pla, .bool true]) ∧ LS w.heap.size w [a] w' a c dp (fun _ => false)) := (fresh_any hF hh).mono fun e w' h => h.ls
  obtain ⟨i0, hi, hz0, hz1, hz2⟩ := info_parts Tryz.info4
  unfold maxLen at m0
  have m0I : (l0.length : Int) ≤ 9223372036854775807 := by omega
  by_cases hbig : 60 < l0.length
  · have hbI : (60 : Int) < (l0.length : Int) := by omega
    clear HF ht w0 hi hz0 hz1 hz2
    go_enter Tryz.func3, Tryz.ntmps3
    go_wp2_with (go_at_call 4; refine (HAW.out _ hF).mono ?_; rintro e w4 ⟨rfl, hF4⟩)
    go_ret
    exact ⟨rfl, hF4.bel⟩
  · have hbI : ¬ (60 : Int) < (l0.length : Int) := by omega
    have h100 : (l0.length : Int) ≤ 60 := by omega
    have HW0 : Hid (RowI w a0 l0) := w0
    clear ht hF w0 hh
    unfold pla at HF
    go_enter Tryz.func3, Tryz.ntmps3
    go_wp2_with (first
      | (go_at_call 5; refine Calls.mono HF.out ?_; rintro e w2 ⟨dp, c, a, rfl, hS2⟩)
      | (at_make; refine wpList_make_full _ rfl _ _ 30 rfl w.heap.size 4 i0 (.bool false) 1 Tryz.underlying30 hi hz0 hz1 .i64 .i64 _ _ 50 rfl rfl rfl rfl (by rw [hz2]; omega) (by decide) (by have := hS2.fr.size; have := hS2.fr.big; simp; omega) ?_; intro w3 hown hg; have hk3 := below_made hg; have hr3 := made_row hown; rw [made50] at hr3; clear hown hg))
    have HS3 : Hid (WS w.heap.size w w3 (w2.heap.size + 1) w2.heap.size a c dp (fun _ => false)) := by
      have hp : PlAt (w2.alloc (.cells pla 27)) w2.heap.size := heap_alloc_new _ _
      have h1 := hS2.box (w' := w2.alloc (.cells pla 27)) ((Below.refl _ _).alloc (Nat.le_refl _) _) (Nat.le_refl _) hp.lt
      have sz : (w2.alloc (.cells pla 27)).heap.size = w2.heap.size + 1 := by simp
      have hr4 : w3.heap[w2.heap.size + 1]? = some (.cells (tkv (fun _ => false)) 4 (0, 0)) := by rw [← sz]; exact hr3
      have h2 := h1.box hk3 (x := w2.heap.size + 1) (by omega) (Array.getElem?_eq_some_iff.1 hr4).1
      have hal := hS2.al.lt
      exact ⟨h2, hp.blk (hk3.block _ hp.lt), hr4, by omega, by omega⟩
    clear hS2 hk3 hr3 HF
    go_loopw [8] (fun i wr => ∃ k tk, k ≤ l0.length ∧ i = .int .i64 ((k : Nat) : Int) ∧ WS w.heap.size w wr (w2.heap.size + 1) w2.heap.size a c dp tk) (fun i _ => l0.length - (intOf i).toNat)
    case atStart => exact ⟨0, _, by omega, rfl, HS3.out⟩
    case round =>
      clear HS3
      obtain ⟨k, tk, hk, rfl, hS⟩ := hrel
      by_cases hlt : k < l0.length
      · have hltI : (k : Int) < (l0.length : Int) := by omega
        obtain ⟨bb0, off, rfl, hcell, r3⟩ := (HW0.out.below hS.ls.fr.bel) k hlt
        generalize l0.getD k 0 = Bz at *
        by_cases hpos : 0 ≤ Bz
        · rcases least_or tk 50 with hall | ⟨j, hj, j0, j1⟩
          · have HT : Hid _ := hS.full hall
            have HA : Hid _ := hall
            clear hall hS
            go_wp2_with (go_at_call 6; refine Calls.mono HT.out ?_; rintro e w4 ⟨rfl, hP4⟩)
            obtain ⟨p5, p6, pk⟩ := hP4.facts
            have HP4 : Hid _ := hP4
            have HPK : Hid _ := pk
            clear hP4 pk HT
            go_loopw [11] (fun z wr => wr = w4 ∧ ∃ m : Nat, m ≤ 50 ∧ z = .int .i64 (m : Int)) (fun z _ => 50 - (intOf z).toNat)
            case atStart => exact ⟨rfl, 0, by omega, rfl⟩
            case round =>
              obtain ⟨rfl, m, hm, rfl⟩ := hrel
              by_cases hm5 : m < 50
              · have hmI : (m : Int) < 50 := by omega
                have q1 := (HPK.out m hm5).1
                rw [HA.out m hm5] at q1
                go_wp2
                exact ⟨⟨trivial, m + 1, by omega, by go_num⟩, by simp [intOf]; omega⟩
              · obtain rfl : m = 50 := by omega
                go_wp2
                exact ⟨⟨k + 1, tk, by omega, by go_num, HP4.out.same⟩, by simp [intOf]; omega⟩
          · have HT : Hid _ := hS.take j hj j0 j1
            have hjI : (j : Int) < 50 := by omega
            clear hS
            go_wp2_with (go_at_call 6; refine Calls.mono HT.out ?_; rintro e w4 ⟨rfl, hP4⟩)
            obtain ⟨p5, p6, pk⟩ := hP4.facts
            have HP4 : Hid _ := hP4
            have HPK : Hid _ := pk
            have HJ1 : Hid _ := j1
            have HJ0 : Hid _ := j0
            clear hP4 pk HT j1 j0
            go_loopw [11] (fun z wr => wr = w4 ∧ ∃ m : Nat, m ≤ j ∧ z = .int .i64 (m : Int)) (fun z _ => 50 - (intOf z).toNat)
            case atStart => exact ⟨rfl, 0, by omega, rfl⟩
            case round =>
              obtain ⟨rfl, m, hm, rfl⟩ := hrel
              have hmI : (m : Int) < 50 := by omega
              obtain ⟨q1, q2⟩ := HPK.out m (by omega)
              by_cases hm5 : m < j
              · rw [HJ1.out m hm5] at q1
                go_wp2
                exact ⟨⟨trivial, m + 1, by omega, by go_num⟩, by simp [intOf]; omega⟩
              · obtain rfl : m = j := by omega
                rw [HJ0.out] at q1
                have hm0 : ¬ ((m : Int) = 50) := by omega
                go_wp2
                exact ⟨⟨k + 1, _, by omega, by go_num, HP4.out.note (by omega)⟩, by simp [intOf]; omega⟩
        · obtain ⟨K, HK⟩ : ∃ K : Nat, Hid (Int.tmod (-(Bz + 1)) 50 = (K : Int)) := ⟨(Int.tmod (-(Bz + 1)) 50).toNat, by
            show _ = _
            rw [Int.tmod_eq_emod_of_nonneg (by omega)]
            omega⟩
          have hK : K < 50 := by
            have := HK.out
            rw [Int.tmod_eq_emod_of_nonneg (by omega)] at this
            omega
          have hKI : (K : Int) < 50 := by omega
          have hK0 : (0 : Int) ≤ (K : Int) := by omega
          have hneg : Bz < 0 := by omega
          have e1 : Int.tmod (-(Bz + 1)) 50 = (K : Int) := HK.out
          obtain ⟨p5, p6⟩ := hS.plan
          have pK := hS.cell K hK
          have xK : IntKind.i64.wrap (250 + (K : Int)) = 250 + (K : Int) := by rw [IntKind.wrap_i64]; omega
          have HG : Hid (∀ w', KBel wr w' → Calls Tryz.prog 7 #[.pointer (some ⟨a, 0, none⟩), .int .i64 (IntKind.i64.wrap (250 + (K : Int)))] w' fun e w'' => ∃ er : Int, e = .returned (.int .i64 er) ∧ (er == 0) = tk K ∧ WP w.heap.size w w'' (w2.heap.size + 1) w2.heap.size a c dp tk (upd tk K false)) := fun w' hk => by
            rw [xK]; exact (hS.below hk).give K hK
          clear xK
          obtain ⟨b, hb⟩ : ∃ b, tk K = b := ⟨_, rfl⟩
          have HBB : Hid (∀ er : Int, (er == 0) = tk K → (er == 0) = b) := fun er h => h.trans hb
          rw [hb] at pK
          have HB4 : Hid (∀ w4, WP w.heap.size w w4 (w2.heap.size + 1) w2.heap.size a c dp tk (upd tk K false) → w4.cell? ⟨w2.heap.size, 5, none⟩ = some (.int .i64 250) ∧ w4.cell? ⟨w2.heap.size + 1, K, none⟩ = some (.bool b)) := fun w4 h => by
            obtain ⟨q1, q2, q3⟩ := h.facts
            have q4 := (q3 K hK).1
            rw [hb] at q4
            exact ⟨q1, q4⟩
          clear hS
          go_wp2
          go_region_held3 (fun w' : World => w'.cell? ⟨bb0, off + k, none⟩ = some (.int .i64 Bz) ∧ w'.cell? ⟨w2.heap.size, 6, none⟩ = some (.int .i64 50)) (exact ⟨hcell, p6⟩) (fail)
          have ew : (IntKind.i64.wrap (-IntKind.i64.wrap (Bz + 1))).tmod 50 = (K : Int) := by
            have x1 : IntKind.i64.wrap (Bz + 1) = Bz + 1 := by rw [IntKind.wrap_i64]; omega
            have x2 : IntKind.i64.wrap (-(Bz + 1)) = -(Bz + 1) := by rw [IntKind.wrap_i64]; omega
            rw [x1, x2]; exact HK.out
          rw [ew]
          clear ew HK e1 hcell hpos hneg r3
          go_wp2
          go_region_held3 (fun w' : World => w'.cell? ⟨w2.heap.size, 5, none⟩ = some (.int .i64 250) ∧ w'.cell? ⟨w2.heap.size + 1, K, none⟩ = some (.bool b)) (first | exact hS4 | exact ⟨p5, pK⟩)
            ((first
              | (go_at_call 7; refine (HG.out _ (by exact ⟨rfl, rfl, rfl, Nat.le_refl _, fun _ _ => rfl⟩)).mono ?_; rintro e w4 ⟨er, rfl, her, hP4⟩; have hS4 := HB4.out w4 hP4)))
          have her2 := HBB.out er her
          have HP4 : Hid _ := hP4
          obtain ⟨p5', p6', pk⟩ := hP4.facts
          obtain ⟨q1, q2⟩ := pk K hK
          clear hS4 pk p5 p6 pK hb her HBB HB4 HG
          cases b
          · have hne : ¬ er = 0 := by simpa using her2
            go_wp2
            exact ⟨⟨k + 1, _, by omega, by go_num, HP4.out.note hK⟩, by simp [intOf]; omega⟩
          · obtain rfl : er = 0 := by simpa using her2
            go_wp2
            exact ⟨⟨k + 1, _, by omega, by go_num, HP4.out.note hK⟩, by simp [intOf]; omega⟩
      · obtain rfl : k = l0.length := by omega
        go_wp2_with (go_at_call 4; refine (HAW.out _ hS.ls.fr).mono ?_; rintro e w5 ⟨rfl, hF5⟩)
        go_ret
        exact ⟨rfl, hF5.bel⟩
end Go.Proofs.YtghdpapdnkibdaaGreatDoor
