/- Al Am An Ao Ap Aq Ar As in one text (wip/tools/merge4.py). -/
import Derived.Test.YtpjeidihcjljnaaGreatDoorCa
import Derived.Test.YtpjeidihcjljnaaGreatDoorBm
import Derived.BigQuiet
import Derived.Deep.RegionHeld3
import Derived.Test.YtpjeidihcjljnaaGreatDoorMk
namespace Go.Proofs.YtpjeidihcjljnaaGreatDoor
set_option linter.unusedSimpArgs false
set_option linter.unusedVariables false
set_option maxRecDepth 100000
open Go.RowKit Go.MapKept Go.Proofs
/-- A map: its cache, its one block, the number of what its first bit tells of, of how many it tells, how many are taken for ever. -/
def bma (c : Nat) (p b k f : Int) : Array Value := #[.pointer (some ⟨c, 0, none⟩), .int .i64 p, .int .i64 (p + 1), .int .i64 b, .int .i64 k, .int .i64 f]
def bmv (c : Nat) (p b k f : Int) : Value := .agg (bma c p b k f)
theorem shr12 (b : Nat) (h : b < 4096) : (b : Int) / 4096 = 0 := by omega
theorem home_any (c : Nat) (p b k f : Int) (bit : Nat) (hb : bit < 4096) (hp0 : 0 ≤ p) (hp : p ≤ 100000) (w : World) :
    Calls Tryz.prog 59 #[bmv c p b k f, .int .i64 (bit : Int)] w fun e w' => e = .returned (.int .i64 p) ∧ Below w.heap.size w w' := by
  have hs := shr12 bit hb
  unfold bmv bma
  go_enter Tryz.func59, Tryz.ntmps59
  go_wp2
  go_ret
  refine ⟨retI (by omega), ?_⟩
  exact (Below.refl _ _).alloc (Nat.le_refl _) _
/-- A box that holds a map. -/
def BxAt (w : World) (x c : Nat) (p b k f : Int) : Prop := w.heap[x]? = some (.cells (bma c p b k f) 49 (0, 0))
theorem BxAt.cells {w : World} {x c : Nat} {p b k f : Int} (h : BxAt w x c p b k f) : w.cell? ⟨x, 0, none⟩ = some (.pointer (some ⟨c, 0, none⟩)) ∧ w.cell? ⟨x, 1, none⟩ = some (.int .i64 p) ∧ w.cell? ⟨x, 2, none⟩ = some (.int .i64 (p + 1)) ∧ w.cell? ⟨x, 3, none⟩ = some (.int .i64 b) ∧ w.cell? ⟨x, 4, none⟩ = some (.int .i64 k) ∧ w.cell? ⟨x, 5, none⟩ = some (.int .i64 f) := by
  refine ⟨?_, ?_, ?_, ?_, ?_, ?_⟩ <;> rw [cell_of_row _ _ _ _ _ _ h] <;> rfl
theorem BxAt.blk {w w' : World} {x c : Nat} {p b k f : Int} (h : BxAt w x c p b k f) (e : w'.heap[x]? = w.heap[x]?) : BxAt w' x c p b k f := e.trans h
theorem BxAt.lt {w : World} {x c : Nat} {p b k f : Int} (h : BxAt w x c p b k f) : x < w.heap.size := (Array.getElem?_eq_some_iff.1 h).1
theorem BxAt.new (w : World) (c : Nat) (p b k f : Int) : BxAt (w.alloc (.cells (bma c p b k f) 49)) w.heap.size c p b k f := heap_alloc_new _ _
/-- What a visit leaves: its answer, and the box x as it was. -/
def VisPost (x : Nat) (w2 : World) (Post : Int → World → Prop) (e : Ending) (w' : World) : Prop := ∃ more er, e = .returned (.tuple #[.bool more, .int .i64 er]) ∧ w'.heap[x]? = w2.heap[x]? ∧ Post er w'
def EachPost (Post : Int → World → Prop) (e : Ending) (w' : World) : Prop := ∃ er, e = .returned (.int .i64 er) ∧ Post er w'
theorem each_any {B : Nat} {w1 w : World} {E : List Nat} {c dp n m : Nat} {V : Nat → List Nat} {X : Tx} (h : BS B w1 E w c dp n m V X) (P : Nat) (b k f : Int) (hP0 : 245 ≤ P) (hP : P < n) (hn : n ≤ 2000)
    (fn : Nat) (caps : Array Value) (hen : Enters Tryz.prog fn) (Post : Int → World → Prop)
    (HV : ∀ w2 g ty, Below w.heap.size w w2 → BxAt w2 w.heap.size c P b k f → Full w2 g ty (txV V X P) → w.heap.size < g → Calls Tryz.prog fn (#[.int .i64 0, .slice (some ⟨g, 0, none⟩) 512 512] ++ caps) w2 (VisPost w.heap.size w2 Post)) :
    Calls Tryz.prog 38 #[bmv c P b k f, .func (.func fn) #[] caps] w (EachPost Post) := by
  have hPI : (P : Int) ≤ 2000 := by omega
  have hb0 : Below w.heap.size w (w.alloc (.cells (bma c P b k f) 49)) := (Below.refl _ _).alloc (Nat.le_refl _) _
  obtain ⟨h0, _⟩ := h.below hb0
  have HR : Hid _ := h0.cs.read P hP0 hP
  have hx0 := BxAt.new w c P b k f
  obtain ⟨c0, c1, c2, c3, c4, c5⟩ := hx0.cells
  have hsz : (w.alloc (.cells (bma c P b k f) 49)).heap.size = w.heap.size + 1 := by simp
  have HV2 : Hid (∀ (w2 : World) g ty, Below (w.alloc (.cells (bma c P b k f) 49)).heap.size (w.alloc (.cells (bma c P b k f) 49)) w2 → Full w2 g ty (txV V X P) → (w.alloc (.cells (bma c P b k f) 49)).heap.size ≤ g → w2.cell? ⟨w.heap.size, 1, none⟩ = some (.int .i64 (P : Int)) ∧ Calls Tryz.prog fn (#[.int .i64 0, .slice (some ⟨g, 0, none⟩) 512 512] ++ caps) w2 (VisPost w.heap.size w2 Post) ∧ ∀ w3 : World, w3.heap[w.heap.size]? = w2.heap[w.heap.size]? → w3.cell? ⟨w.heap.size, 2, none⟩ = some (.int .i64 ((P : Int) + 1))) := fun w2 g ty hb hf hg => by
    rw [hsz] at hb hg
    have hx := hx0.blk (hb.block _ (by omega))
    exact ⟨hx.cells.2.1, HV w2 g ty (hb0.trans (hb.mono (by omega))) hx hf (by omega), fun w3 e => (hx.blk e).cells.2.2.1⟩
  have hen2 := fun a w => hen a w
  clear HV hx0 h0 h hen hsz
  unfold bmv
  unfold bma at *
  go_enter Tryz.func38, Tryz.ntmps38
  go_wp2
  go_loopw [5] (fun i wr => (i = .int .i64 (P : Int) ∧ wr = w.alloc (.cells #[.pointer (some ⟨c, 0, none⟩), .int .i64 (P : Int), .int .i64 ((P : Int) + 1), .int .i64 b, .int .i64 k, .int .i64 f] 49)) ∨ (i = .int .i64 ((P : Int) + 1) ∧ Post 0 wr ∧ wr.cell? ⟨w.heap.size, 2, none⟩ = some (.int .i64 ((P : Int) + 1)))) (fun i _ => (P + 1 - (intOf i).toNat))
  case atStart => exact .inl ⟨rfl, rfl⟩
  case round =>
    rcases hrel with ⟨rfl, rfl⟩ | ⟨rfl, hp, hc⟩
    · go_wp2_with (first
        | (go_at_call 70; refine Calls.mono HR.out ?_; rintro e w2 ⟨g, ty, rfl, hf2, hge2, hb2⟩; obtain ⟨d1, d2, d3⟩ := HV2.out w2 g ty hb2 hf2 hge2; have HC : Hid _ := d2; have HE : Hid _ := d3; clear d2 d3 hf2))
      refine Calls.mono HC.out ?_
      rintro e w3 ⟨more, er, rfl, hx3, hp3⟩
      have hc3 := HE.out w3 hx3
      clear hx3 d1 hb2
      cases more
      · go_wp2
        go_ret
        exact ⟨er, rfl, hp3⟩
      · by_cases her : er = 0
        · subst her
          go_wp2
          exact ⟨.inr ⟨by go_num, hp3, hc3⟩, by simp [intOf]⟩
        · have her2 : (er != 0) = true := by simpa using her
          go_wp2
          go_ret
          exact ⟨er, rfl, hp3⟩
    · have hlt : ¬ ((P : Int) + 1 < (P : Int) + 1) := by omega
      go_wp2
      go_ret
      exact ⟨0, rfl, hp⟩
end Go.Proofs.YtpjeidihcjljnaaGreatDoor
namespace Go.Proofs.YtpjeidihcjljnaaGreatDoor
set_option linter.unusedSimpArgs false
set_option linter.unusedVariables false
set_option maxRecDepth 100000
open Go.RowKit Go.MapKept Go.Proofs
def TkPost (w : World) (y : Nat) (q : List Nat) (k : Int) (e : Ending) (w' : World) : Prop :=
  ∃ r, FirstIs q k r ∧ ((r = -1 ∧ e = .returned (.tuple #[.bool true, .int .i64 0]) ∧ w' = w) ∨ (0 ≤ r ∧ e = .returned (.tuple #[.bool false, .int .i64 0]) ∧ w' = w.setCell ⟨y, 0, none⟩ (.int .i64 r)))
theorem takeV {w : World} {x y c g ty : Nat} {p b k f : Int} {q : List Nat} (hx : BxAt w x c p b k f) (hy : w.heap[y]? = some (.cells #[.int .i64 (-1)] 3 (0, 0))) (hg : Full w g ty q) (hq : q.length = 512) (hqb : ∀ i, q.getD i 0 < 256) (hk0 : 0 ≤ k) (hk : k ≤ 4096) :
    Calls Tryz.prog 39 #[.int .i64 0, .slice (some ⟨g, 0, none⟩) 512 512, .pointer (some ⟨x, 0, none⟩), .pointer (some ⟨y, 0, none⟩)] w (TkPost w y q k) := by
  obtain ⟨c0, c1, c2, c3, c4, c5⟩ := hx.cells
  have y0 : w.cell? ⟨y, 0, none⟩ = some (.int .i64 (-1)) := by rw [cell_of_row _ _ _ _ _ _ hy]; rfl
  have yf : w.frozen? ⟨y, 0, none⟩ = false := frozen_of_row _ _ _ _ _ hy
  have hF := first_any (some ⟨g, 0, none⟩) 512 q k w (hg.row hqb) (by omega)
  rw [hq] at hF
  have HF : Hid _ := hF
  clear hF hx hy hg
  go_enter Tryz.func39, Tryz.ntmps39
  go_wp2_with fail
  refine Calls.mono HF.out ?_
  rintro e w2 ⟨⟨r, rfl, hr⟩, hw⟩
  subst w2
  have HR : Hid (FirstIs q k r) := hr
  rcases hr with ⟨j, rfl, hj, _, _, _⟩ | ⟨rfl, _⟩
  · have hj1 : (j : Int) ≤ 4096 := by omega
    have hj0 : ¬ (j : Int) < 0 := by omega
    clear hj
    go_wp2
    go_ret2
    exact ⟨j, HR.out, .inr ⟨by omega, rfl, rfl⟩⟩
  · go_wp2
    go_ret2
    exact ⟨-1, HR.out, .inl ⟨rfl, rfl, rfl⟩⟩
/-- The cells of a box, in the open. -/
def Six (x c : Nat) (p b k f : Int) (w : World) : Prop := w.cell? ⟨x, 0, none⟩ = some (.pointer (some ⟨c, 0, none⟩)) ∧ w.cell? ⟨x, 1, none⟩ = some (.int .i64 p) ∧ w.cell? ⟨x, 2, none⟩ = some (.int .i64 (p + 1)) ∧ w.cell? ⟨x, 3, none⟩ = some (.int .i64 b) ∧ w.cell? ⟨x, 4, none⟩ = some (.int .i64 k) ∧ w.cell? ⟨x, 5, none⟩ = some (.int .i64 f)
theorem and4095 (bit : Nat) (h : bit < 4096) : bits .and .i64 (bit : Int) 4095 = (bit : Int) := by
  have e2 : (BitVec.ofInt 64 (bit : Int)).toNat = bit := ofInt_u64 bit (by omega)
  show IntKind.i64.wrap ((BitVec.ofInt 64 (bit : Int) &&& BitVec.ofInt 64 4095).toNat : Nat) = _
  rw [BitVec.toNat_and, e2, show (BitVec.ofInt 64 4095).toNat = 2 ^ 12 - 1 by decide, Nat.and_two_pow_sub_one_eq_mod, IntKind.wrap_i64]
  omega
/-- A world behind W in which nothing of W has changed. -/
abbrev KBel (W w' : World) : Prop := Below W.heap.size W w'
theorem KBel.step {W w' w'' : World} (h : KBel W w') (hb : Below w'.heap.size w' w'') : KBel W w'' := h.trans (hb.mono h.size)
theorem home_k {W : World} {x c : Nat} {p b k f : Int} (hx : BxAt W x c p b k f) (bit : Nat) (hb : bit < 4096) (hp0 : 0 ≤ p) (hp : p ≤ 100000) (w : World) (hk : KBel W w) :
    Calls Tryz.prog 59 #[bmv c p b k f, .int .i64 (bit : Int)] w fun e w' => e = .returned (.int .i64 p) ∧ KBel W w' ∧ Six x c p b k f w' ∧ ∀ g t l, Full w g t l → Full w' g t l := by
  refine (home_any c p b k f bit hb hp0 hp w).mono ?_
  rintro e w' ⟨rfl, hbe⟩
  have h2 := hk.step hbe
  exact ⟨rfl, h2, (hx.blk (h2.block _ hx.lt)).cells, fun g t l h => h.below hbe⟩
theorem read_k {B : Nat} {w1 W : World} {E : List Nat} {c dp n m : Nat} {V : Nat → List Nat} {X : Tx} (h : BS B w1 E W c dp n m V X) {x : Nat} {p b k f : Int} (hx : BxAt W x c p b k f) (P : Nat) (hP0 : 245 ≤ P) (hP : P < n) (w : World) (hk : KBel W w) :
    Calls Tryz.prog 70 #[.pointer (some ⟨c, 0, none⟩), .int .i64 (P : Int)] w fun e w' => ∃ g ty, e = .returned (.tuple #[.slice (some ⟨g, 0, none⟩) 512 512, .int .i64 0]) ∧ KBel W w' ∧ Six x c p b k f w' ∧ Full w' g ty (txV V X P) := by
  refine ((h.below hk).1.cs.read P hP0 hP).mono ?_
  rintro e w' ⟨g, ty, rfl, hf, _, hbe⟩
  have h2 := hk.step hbe
  exact ⟨g, ty, rfl, h2, (hx.blk (h2.block _ hx.lt)).cells, hf⟩
theorem set_k {W : World} {x c : Nat} {p b k f : Int} (hx : BxAt W x c p b k f) {g ty : Nat} {q : List Nat} (hq : q.length = 512) (hqb : ∀ i, q.getD i 0 < 256) (bit : Nat) (hbit : bit < 4096) (on : Bool) (w : World) (hk : KBel W w) (hg : Full w g ty q) :
    Calls Tryz.prog 61 #[.slice (some ⟨g, 0, none⟩) 512 512, .int .i64 (bit : Int), .bool on] w fun e w' => ∃ g5, e = .returned (.slice (some ⟨g5, 0, none⟩) 512 512) ∧ KBel W w' ∧ Six x c p b k f w' ∧ Full w' g5 5 (setL q bit on) := by
  have := set_any (some ⟨g, 0, none⟩) 512 q bit on w (hg.row hqb) (by omega) (by omega)
  rw [hq] at this
  refine this.mono ?_
  rintro e w' ⟨⟨g5, rfl, ho⟩, hbe⟩
  have h2 := hk.step hbe
  refine ⟨g5, rfl, h2, (hx.blk (h2.block _ hx.lt)).cells, ?_⟩
  have hl5 : (setL q bit on).length = 512 := by rw [setL_length, hq]
  have ho2 : Own w.heap.size w' g5 (setL q bit on).length (setL q bit on) := by rw [hl5]; exact ho
  exact own_full ho2
def MarkPost (B : Nat) (w1 : World) (E : List Nat) (w : World) (c dp n m : Nat) (V : Nat → List Nat) (X : Tx) (w' : World) : Prop := BS B w1 E w' c dp n m V X ∧ Same E w w'
/-- mark: the bit is written. -/
theorem mark_any {B : Nat} {w1 w : World} {E : List Nat} {c dp n m : Nat} {V : Nat → List Nat} {hl : List Nat} {fu : Nat → List Nat} (h : BS B w1 E w c dp n m V (some (hl, fu))) (P : Nat) (b k f : Int) (hP0 : 245 ≤ P) (hP : P < n) (hn : n ≤ 2000) (hfull : fullB hl P = false) (bit : Nat) (hbit : bit < 4096) (on : Bool) :
    Calls Tryz.prog 41 #[bmv c P b k f, .int .i64 (bit : Int), .bool on] w fun e w' => e = .returned (.int .i64 0) ∧ MarkPost B w1 E w c dp n m V (some (addK hl P, updK fu P (setL (txV V (some (hl, fu)) P) bit on))) w' := by
  have hPI : (P : Int) ≤ 2000 := by omega
  have hb0 : Below w.heap.size w (w.alloc (.cells (bma c P b k f) 49)) := (Below.refl _ _).alloc (Nat.le_refl _) _
  have hx0 := BxAt.new w c P b k f
  have hS0 : Six w.heap.size c P b k f _ := hx0.cells
  obtain ⟨hq, hqb⟩ := h.cs.tell hP0 hP
  have hand := and4095 bit hbit
  obtain ⟨h0, hs0⟩ := h.below hb0
  have HHO : Hid _ := home_k hx0 bit hbit (by omega) (by omega)
  have HRD : Hid _ := read_k h0 hx0 P hP0 hP
  have HSE : Hid _ := fun (g ty : Nat) => set_k (g := g) (ty := ty) hx0 hq hqb bit hbit on
  have hbx := h.box hb0 (Nat.le_refl _) (by simp)
  have HWR : Hid (∀ w' g5, KBel (w.alloc (.cells (bma c P b k f) 49)) w' → Full w' g5 5 (setL (txV V (some (hl, fu)) P) bit on) → Calls Tryz.prog 62 #[.pointer (some ⟨c, 0, none⟩), .int .i64 (P : Int), .slice (some ⟨g5, 0, none⟩) 512 512] w' fun e w'' => e = .returned (.int .i64 0) ∧ Six w.heap.size c P b k f w'' ∧ MarkPost B w1 E w c dp n m V (some (addK hl P, updK fu P (setL (txV V (some (hl, fu)) P) bit on))) w'') := fun w' g5 hk hf => by
    obtain ⟨h5, hs5⟩ := hbx.below hk
    refine (h5.write P hP0 hP hfull hf (by rw [setL_length, hq]) (setL_lt _ _ _ hqb)).mono ?_
    rintro e w'' ⟨rfl, a, b⟩
    refine ⟨rfl, ((hx0.blk (hs5 _ (by simp))).blk (b _ (by simp))).cells, a.ext (fun x hx => by simp [hx]), fun x hx => (b x (by simp [hx])).trans ((hs5 x (by simp [hx])).trans (hs0 x hx))⟩
  clear h h0 hs0 hx0 hb0 hqb hq hbx
  generalize txV V (some (hl, fu)) P = q at *
  generalize MarkPost B w1 E w c dp n m V (some (addK hl P, updK fu P (setL q bit on))) = MP at *
  generalize setL q bit on = q' at *
  unfold Six at *
  unfold bmv at *
  unfold bma at *
  go_enter Tryz.func41, Tryz.ntmps41
  go_wp2
  go_region_held3 (fun w' : World => w'.cell? ⟨w.heap.size, 0, none⟩ = some (.pointer (some ⟨c, 0, none⟩)) ∧ w'.cell? ⟨w.heap.size, 1, none⟩ = some (.int .i64 (P : Int)) ∧ w'.cell? ⟨w.heap.size, 2, none⟩ = some (.int .i64 ((P : Int) + 1)) ∧ w'.cell? ⟨w.heap.size, 3, none⟩ = some (.int .i64 b) ∧ w'.cell? ⟨w.heap.size, 4, none⟩ = some (.int .i64 k) ∧ w'.cell? ⟨w.heap.size, 5, none⟩ = some (.int .i64 f)) (first | exact hS3 | exact hS2 | exact hS0)
    ((first
      | (go_at_call 59; refine (HHO.out _ (by exact ⟨rfl, rfl, rfl, Nat.le_refl _, fun _ _ => rfl⟩)).mono ?_; rintro e w2 ⟨rfl, hk2, hS2, _⟩)
      | (go_at_call 70; refine (HRD.out _ (by exact ⟨hk2.os, hk2.tape, hk2.output, hk2.size, hk2.block⟩)).mono ?_; rintro e w3 ⟨g, ty, rfl, hk3, hS3, hf3⟩)))
  clear hS0 hS2
  go_wp2
  go_region_held3 (fun w' : World => w'.cell? ⟨w.heap.size, 0, none⟩ = some (.pointer (some ⟨c, 0, none⟩)) ∧ w'.cell? ⟨w.heap.size, 1, none⟩ = some (.int .i64 (P : Int)) ∧ w'.cell? ⟨w.heap.size, 2, none⟩ = some (.int .i64 ((P : Int) + 1)) ∧ w'.cell? ⟨w.heap.size, 3, none⟩ = some (.int .i64 b) ∧ w'.cell? ⟨w.heap.size, 4, none⟩ = some (.int .i64 k) ∧ w'.cell? ⟨w.heap.size, 5, none⟩ = some (.int .i64 f)) (first | exact hS6 | exact hS5 | exact hSh | exact hS3)
    ((first
      | (go_at_call 59; have _t := hf5; refine (HHO.out _ (by exact ⟨hk5.os, hk5.tape, hk5.output, hk5.size, hk5.block⟩)).mono ?_; rintro e wh ⟨rfl, hkz, hSh, hfh⟩; have hfz := hfh _ _ _ hf5)
      | (go_at_call 59; refine (HHO.out _ (by exact ⟨hk3.os, hk3.tape, hk3.output, hk3.size, hk3.block⟩)).mono ?_; rintro e wh ⟨rfl, hkh, hSh, hfh⟩; have hfg := hfh _ _ _ hf3)
      | (go_at_call 61; have _t := hfg; refine (HSE.out g ty _ (by exact ⟨hkh.os, hkh.tape, hkh.output, hkh.size, hkh.block⟩) (by exact hfg)).mono ?_; rintro e w5 ⟨g5, rfl, hkz, hS5, hfz⟩)
      | (go_at_call 61; refine (HSE.out g ty _ (by exact ⟨hk3.os, hk3.tape, hk3.output, hk3.size, hk3.block⟩) (by exact hf3)).mono ?_; rintro e w5 ⟨g5, rfl, hk5, hS5, hf5⟩)
      | (go_at_call 62; refine (HWR.out _ _ (by exact ⟨hkz.os, hkz.tape, hkz.output, hkz.size, hkz.block⟩) (by exact hfz)).mono ?_; rintro e w6 ⟨rfl, hS6, hm6⟩)))
  all_goals go_wp2
  all_goals go_ret
  all_goals exact ⟨rfl, hm6⟩
end Go.Proofs.YtpjeidihcjljnaaGreatDoor
namespace Go.Proofs.YtpjeidihcjljnaaGreatDoor
set_option linter.unusedSimpArgs false
set_option linter.unusedVariables false
set_option maxRecDepth 100000
open Go.RowKit Go.MapKept Go.Proofs
/-- What take leaves. -/
def TakePost (B : Nat) (w1 : World) (E : List Nat) (w : World) (c dp n m : Nat) (V : Nat → List Nat) (hl : List Nat) (fu : Nat → List Nat) (P : Nat) (b k : Int) (e : Ending) (w' : World) : Prop :=
  (e = .returned (.tuple #[.int .i64 0, .int .i64 3]) ∧ FirstIs (txV V (some (hl, fu)) P) k (-1) ∧ MarkPost B w1 E w c dp n m V (some (hl, fu)) w') ∨
  (∃ j : Nat, e = .returned (.tuple #[.int .i64 (b + (j : Int)), .int .i64 0]) ∧ FirstIs (txV V (some (hl, fu)) P) k j ∧ MarkPost B w1 E w c dp n m V (some (addK hl P, updK fu P (setL (txV V (some (hl, fu)) P) j true))) w')
def w2x (w : World) (c : Nat) (p b k f : Int) (v : Int) : World := (w.alloc (.cells (bma c p b k f) 49)).alloc (.cells #[.int .i64 v] 3)
theorem w2x_facts (w : World) (c : Nat) (p b k f v : Int) : Below w.heap.size w (w2x w c p b k f v) ∧ BxAt (w2x w c p b k f v) w.heap.size c p b k f ∧ (w2x w c p b k f v).heap[w.heap.size + 1]? = some (.cells #[.int .i64 v] 3 (0, 0)) ∧ (w2x w c p b k f v).heap.size = w.heap.size + 2 := by
  have b1 : Below w.heap.size w (w.alloc (.cells (bma c p b k f) 49)) := (Below.refl _ _).alloc (Nat.le_refl _) _
  have s1 : (w.alloc (.cells (bma c p b k f) 49)).heap.size = w.heap.size + 1 := by simp
  have b2 : Below (w.heap.size + 1) (w.alloc (.cells (bma c p b k f) 49)) (w2x w c p b k f v) := (Below.refl _ _).alloc (by omega) _
  refine ⟨b1.trans (b2.mono (by omega)), (BxAt.new w c p b k f).blk (b2.block _ (by omega)), ?_, ?_⟩
  · have := heap_alloc_new (w.alloc (.cells (bma c p b k f) 49)) (.cells #[.int .i64 v] 3)
    rw [s1] at this
    exact this
  · show ((w.alloc _).heap.push _).size = _
    simp
/-- Both boxes beside the cache. -/
theorem BS.two {B : Nat} {w1 w w' : World} {E : List Nat} {c dp n m : Nat} {V : Nat → List Nat} {X : Tx} (h : BS B w1 E w c dp n m V X) (hb : Below w.heap.size w w') (hs : w.heap.size + 2 ≤ w'.heap.size) : BS B w1 (w.heap.size :: (w.heap.size + 1) :: E) w' c dp n m V X := by
  obtain ⟨hF, hge, j, d, T, h1, h2⟩ := h
  refine ⟨hF.below hb, fun y hy => ?_, j, d, T, (h1.ext (fun y hy => ?_)).below hb, h2⟩
  · have := Nat.le_trans hF.big hF.size
    rcases List.mem_cons.1 hy with rfl | q
    · exact ⟨this, by omega⟩
    · rcases List.mem_cons.1 q with rfl | q
      · exact ⟨by omega, by omega⟩
      · exact ⟨(hge y q).1, Nat.lt_of_lt_of_le (hge y q).2 hb.size⟩
  · rcases List.mem_cons.1 hy with rfl | q
    · exact .inr (Nat.le_refl _)
    · rcases List.mem_cons.1 q with rfl | q
      · exact .inr (by omega)
      · exact .inl q
def TEach (B : Nat) (w1 : World) (E : List Nat) (w : World) (c dp n m : Nat) (V : Nat → List Nat) (X : Tx) (P : Nat) (b k f : Int) (er : Int) (w3 : World) : Prop :=
  er = 0 ∧ ∃ r, FirstIs (txV V X P) k r ∧ BS B w1 (w.heap.size :: (w.heap.size + 1) :: E) w3 c dp n m V X ∧ BxAt w3 w.heap.size c P b k f ∧ w3.heap[w.heap.size + 1]? = some (.cells #[.int .i64 r] 3 (0, 0)) ∧ Same E w w3
theorem take_each {B : Nat} {w1 w : World} {E : List Nat} {c dp n m : Nat} {V : Nat → List Nat} {X : Tx} (h : BS B w1 E w c dp n m V X) (P : Nat) (b k f : Int) (hP0 : 245 ≤ P) (hP : P < n) (hn : n ≤ 2000) (hk0 : 0 ≤ k) (hk1 : k ≤ 4096) :
    Calls Tryz.prog 38 #[bmv c P b k f, .func (.func 39) #[] #[.pointer (some ⟨w.heap.size, 0, none⟩), .pointer (some ⟨w.heap.size + 1, 0, none⟩)]] (w2x w c P b k f (-1)) (EachPost (TEach B w1 E w c dp n m V X P b k f)) := by
  obtain ⟨f1, f2, f3, f4⟩ := w2x_facts w c P b k f (-1)
  have hB := h.two f1 (by omega)
  obtain ⟨hq, hqb⟩ := h.cs.tell hP0 hP
  refine each_any hB P b k f hP0 hP hn 39 _ (enters_of Tryz.func39 (by kernel_rfl) rfl) _ ?_
  intro w2 g ty hb2 hx2 hf2 hg2
  have hx : BxAt w2 w.heap.size c P b k f := f2.blk (hb2.block _ (by omega))
  have hy : w2.heap[w.heap.size + 1]? = some (.cells #[.int .i64 (-1)] 3 (0, 0)) := (hb2.block _ (by omega)).trans f3
  obtain ⟨hB2, hs2⟩ := hB.below hb2
  have hsE : Same E w w2 := fun x hx => (hs2 x (by simp [hx])).trans (f1.block x (h.ge x hx).2)
  refine (takeV hx hy hf2 hq hqb hk0 hk1).mono ?_
  rintro e w' ⟨r, hr, ⟨rfl, rfl, rfl⟩ | ⟨h0, rfl, rfl⟩⟩
  · exact ⟨true, 0, rfl, rfl, rfl, -1, hr, hB2, hx, hy, hsE⟩
  · have hk : Keeps [w.heap.size + 1] w2 (w2.setCell ⟨w.heap.size + 1, 0, none⟩ (.int .i64 r)) := (Keeps.refl _ _).setCell _ _ (by simp)
    have hlt := (Array.getElem?_eq_some_iff.1 hy).1
    have oth : ∀ z, z ≠ w.heap.size + 1 → (w2.setCell ⟨w.heap.size + 1, 0, none⟩ (.int .i64 r)).heap[z]? = w2.heap[z]? := fun z hz => heap_setCell_other _ _ _ _ hz
    refine ⟨false, 0, rfl, oth _ (by omega), rfl, r, hr, hB2.keeps hk (by simp), hx.blk (oth _ (by omega)), ?_, fun z hz => (oth z ?_).trans (hsE z hz)⟩
    · rw [heap_setCell_same _ _ _ _ _ _ hy]; rfl
    · have := (h.ge z hz).2; omega
theorem take_any {B : Nat} {w1 w : World} {E : List Nat} {c dp n m : Nat} {V : Nat → List Nat} {hl : List Nat} {fu : Nat → List Nat} (h : BS B w1 E w c dp n m V (some (hl, fu))) (P : Nat) (b k f : Int) (hP0 : 245 ≤ P) (hP : P < n) (hn : n ≤ 2000) (hfull : fullB hl P = false) (hb0 : 0 ≤ b) (hb1 : b ≤ 100000) (hk0 : 0 ≤ k) (hk1 : k ≤ 4096) :
    Calls Tryz.prog 19 #[bmv c P b k f] w (TakePost B w1 E w c dp n m V hl fu P b k) := by
  have HO : Hid (∀ w', KBel w w' → Calls Tryz.prog 21 #[.pointer (some ⟨c, 0, none⟩)] w' fun e w'' => e = .returned (.bool true) ∧ w'' = w') := fun w' hk => (h.below hk).1.cs.openC
  have HE : Hid _ := take_each h P b k f hP0 hP hn hk0 hk1
  have HM : Hid (∀ w3 (j : Nat), BS B w1 (w.heap.size :: (w.heap.size + 1) :: E) w3 c dp n m V (some (hl, fu)) → Same E w w3 → BxAt w3 w.heap.size c P b k f → w3.heap[w.heap.size + 1]? = some (.cells #[.int .i64 (j : Int)] 3 (0, 0)) → j < 4096 → Calls Tryz.prog 41 #[bmv c P b k f, .int .i64 (j : Int), .bool true] w3 fun e w4 => e = .returned (.int .i64 0) ∧ Six w.heap.size c P b k f w4 ∧ w4.cell? ⟨w.heap.size + 1, 0, none⟩ = some (.int .i64 (j : Int)) ∧ MarkPost B w1 E w c dp n m V (some (addK hl P, updK fu P (setL (txV V (some (hl, fu)) P) j true))) w4) := fun w3 j hB hs hx hy hj => by
    refine (mark_any hB P b k f hP0 hP hn hfull j hj true).mono ?_
    rintro e w4 ⟨rfl, hm, hs4⟩
    refine ⟨rfl, (hx.blk (hs4 _ (by simp))).cells, ?_, hm.ext (fun x hx => by simp [hx]), fun x hx => (hs4 x (by simp [hx])).trans (hs x hx)⟩
    rw [cell_of_row _ _ _ _ _ _ ((hs4 _ (by simp)).trans hy)]; rfl
  have HP : Hid (∀ w3, BS B w1 (w.heap.size :: (w.heap.size + 1) :: E) w3 c dp n m V (some (hl, fu)) → Same E w w3 → MarkPost B w1 E w c dp n m V (some (hl, fu)) w3) := fun w3 hB hs => ⟨hB.ext (fun x hx => by simp [hx]), hs⟩
  clear h
  unfold Six at HM
  unfold w2x at HE
  unfold bmv at *
  unfold bma at HE HM ⊢
  go_enter Tryz.func19, Tryz.ntmps19
  go_wp2_with (first
    | (go_at_call 21; refine (HO.out _ (by exact (Below.refl _ _).alloc (Nat.le_refl _) _)).mono ?_; rintro e w2 ⟨rfl, hw⟩; subst w2))
  refine Calls.mono HE.out ?_
  rintro e w3 ⟨er, rfl, rfl, r, hr, hB3, hx3, hy3, hs3⟩
  obtain ⟨c0, c1, c2, c3, c4, c5⟩ := hx3.cells
  have y0 : w3.cell? ⟨w.heap.size + 1, 0, none⟩ = some (.int .i64 r) := by rw [cell_of_row _ _ _ _ _ _ hy3]; rfl
  have HR : Hid (FirstIs (txV V (some (hl, fu)) P) k r) := hr
  have HM3 : Hid _ := HM.out w3
  have HP3 : Hid _ := HP.out w3 hB3 hs3
  rcases hr with ⟨j, rfl, hj, _, _, _⟩ | ⟨rfl, _⟩
  · have hj1 : (j : Int) < 4096 := by omega
    have hj0 : ¬ (j : Int) < 0 := by omega
    have HM4 : Hid _ := HM3.out j hB3 hs3 hx3 hy3 (by omega)
    clear hj HM3 HM hB3 hs3 hx3 hy3 HE HO HP HP3
    go_wp2_with (first
      | (go_at_call 41; refine Calls.mono HM4.out ?_; rintro e w4 ⟨rfl, ⟨q0, q1, q2, q3, q4, q5⟩, q6, hm⟩))
    go_ret2
    exact .inr ⟨j, rfl, HR.out, hm⟩
  · clear HM3 HM hB3 hs3 hx3 hy3 HE HO HP
    go_wp2
    go_ret2
    exact .inl ⟨rfl, HR.out, HP3.out⟩
end Go.Proofs.YtpjeidihcjljnaaGreatDoor
namespace Go.Proofs.YtpjeidihcjljnaaGreatDoor
set_option linter.unusedSimpArgs false
set_option linter.unusedVariables false
set_option maxRecDepth 100000
open Go.RowKit Go.MapKept Go.Proofs
theorem taken_in {B : Nat} {w1 w : World} {E : List Nat} {c dp n m : Nat} {V : Nat → List Nat} {X : Tx} (h : BS B w1 E w c dp n m V X) (P : Nat) (b k f : Int) (hP0 : 245 ≤ P) (hP : P < n) (hn : n ≤ 2000) (hb0 : 0 ≤ b) (hb1 : b ≤ 100000) (hk1 : k ≤ 4096) (j : Nat) (hj1 : (j : Int) < k) :
    Calls Tryz.prog 72 #[bmv c P b k f, .int .i64 (b + (j : Int))] w fun e w' => e = .returned (.bool (tst (txV V X P) j)) ∧ KBel w w' := by
  have hPI : (P : Int) ≤ 2000 := by omega
  have hjl : j < 4096 := by omega
  have hjI : (j : Int) < 4096 := by omega
  have hb0' : Below w.heap.size w (w.alloc (.cells (bma c P b k f) 49)) := (Below.refl _ _).alloc (Nat.le_refl _) _
  have hx0 := BxAt.new w c P b k f
  have hS0 : Six w.heap.size c P b k f _ := hx0.cells
  obtain ⟨hq, hqb⟩ := h.cs.tell hP0 hP
  have hand := and4095 j hjl
  obtain ⟨h0, hs0⟩ := h.below hb0'
  have HHO : Hid _ := home_k hx0 j hjl (by omega) (by omega)
  have HRD : Hid _ := read_k h0 hx0 P hP0 hP
  have HKB : Hid (∀ w', KBel (w.alloc (.cells (bma c P b k f) 49)) w' → KBel w w') := fun w' hk => hb0'.trans (hk.mono hb0'.size)
  have HTS : Hid (∀ w' g ty, Full w' g ty (txV V X P) → Calls Tryz.prog 71 #[.slice (some ⟨g, 0, none⟩) 512 512, .int .i64 (j : Int)] w' fun e w'' => e = .returned (.bool (tst (txV V X P) j)) ∧ w'' = w') := fun w' g ty hf => by
    have := test_any (some ⟨g, 0, none⟩) 512 (txV V X P) (j : Int) w' (hf.row hqb) (by rw [hq]; decide) (by omega)
    rw [hq, tstI_nat] at this
    exact this
  have n1 : ¬ (b + (j : Int) < b) := by omega
  have n3 : ¬ (k ≤ (j : Int)) := by omega
  have e1 : b + (j : Int) - b = (j : Int) := by omega
  clear h h0 hs0 hx0 hb0' hqb hq hj1
  generalize txV V X P = q at *
  generalize tst q j = tj at *
  unfold Six at *
  unfold bmv at *
  unfold bma at *
  go_enter Tryz.func72, Tryz.ntmps72
  go_wp2
  go_region_held3 (fun w' : World => w'.cell? ⟨w.heap.size, 0, none⟩ = some (.pointer (some ⟨c, 0, none⟩)) ∧ w'.cell? ⟨w.heap.size, 1, none⟩ = some (.int .i64 (P : Int)) ∧ w'.cell? ⟨w.heap.size, 2, none⟩ = some (.int .i64 ((P : Int) + 1)) ∧ w'.cell? ⟨w.heap.size, 3, none⟩ = some (.int .i64 b) ∧ w'.cell? ⟨w.heap.size, 4, none⟩ = some (.int .i64 k) ∧ w'.cell? ⟨w.heap.size, 5, none⟩ = some (.int .i64 f)) (first | exact hS3 | exact hS2 | exact hS0)
    ((first
      | (go_at_call 59; refine (HHO.out _ (by exact ⟨rfl, rfl, rfl, Nat.le_refl _, fun _ _ => rfl⟩)).mono ?_; rintro e w2 ⟨rfl, hk2, hS2, _⟩)
      | (go_at_call 70; refine (HRD.out _ (by exact ⟨hk2.os, hk2.tape, hk2.output, hk2.size, hk2.block⟩)).mono ?_; rintro e w3 ⟨g, ty, rfl, hk3, hS3, hf3⟩)))
  go_wp2_with (go_at_call 71; refine (HTS.out _ g ty hf3).mono ?_; rintro e w4 ⟨rfl, hw⟩; subst w4)
  go_ret
  exact ⟨rfl, HKB.out _ hk3⟩
theorem mayGive_in {B : Nat} {w1 w : World} {E : List Nat} {c dp n m : Nat} {V : Nat → List Nat} {X : Tx} (h : BS B w1 E w c dp n m V X) (P : Nat) (b k f : Int) (hP0 : 245 ≤ P) (hP : P < n) (hn : n ≤ 2000) (hb0 : 0 ≤ b) (hb1 : b ≤ 100000) (hk1 : k ≤ 4096) (j : Nat) (hj0 : f ≤ j) (hj1 : (j : Int) < k) :
    Calls Tryz.prog 42 #[bmv c P b k f, .int .i64 (b + (j : Int))] w fun e w' => e = .returned (.bool (tst (txV V X P) j)) ∧ KBel w w' := by
  have hjI : (j : Int) < 4096 := by omega
  have hb0' : Below w.heap.size w (w.alloc (.cells (bma c P b k f) 49)) := (Below.refl _ _).alloc (Nat.le_refl _) _
  have hx0 := BxAt.new w c P b k f
  obtain ⟨h0, hs0⟩ := h.below hb0'
  have HTK : Hid _ := taken_in h0 P b k f hP0 hP hn hb0 hb1 hk1 j hj1
  have HM : Hid (∀ w3, KBel (w.alloc (.cells (bma c P b k f) 49)) w3 → Six w.heap.size c P b k f w3 ∧ KBel w w3) := fun w3 hk =>
    ⟨(hx0.blk (hk.block _ hx0.lt)).cells, hb0'.trans (hk.mono hb0'.size)⟩
  have n2 : f ≤ (j : Int) := hj0
  have e1 : b + (j : Int) - b = (j : Int) := by omega
  generalize tst (txV V X P) j = tj at *
  clear h h0 hs0 hx0 hb0' hj0 hj1
  unfold Six at HM
  unfold bmv at *
  unfold bma at *
  cases tj
  · go_enter Tryz.func42, Tryz.ntmps42
    go_wp2_with (go_at_call 72; refine Calls.mono HTK.out ?_; rintro e w3 ⟨rfl, hk3⟩; obtain ⟨⟨q0, q1, q2, q3, q4, q5⟩, q6⟩ := HM.out w3 hk3)
    go_ret
    exact ⟨rfl, q6⟩
  · go_enter Tryz.func42, Tryz.ntmps42
    go_wp2_with (go_at_call 72; refine Calls.mono HTK.out ?_; rintro e w3 ⟨rfl, hk3⟩; obtain ⟨⟨q0, q1, q2, q3, q4, q5⟩, q6⟩ := HM.out w3 hk3)
    go_ret
    exact ⟨rfl, q6⟩
def GivePost (B : Nat) (w1 : World) (E : List Nat) (w : World) (c dp n m : Nat) (V : Nat → List Nat) (hl : List Nat) (fu : Nat → List Nat) (P j : Nat) (e : Ending) (w' : World) : Prop :=
  (tst (txV V (some (hl, fu)) P) j = false ∧ e = .returned (.int .i64 1) ∧ MarkPost B w1 E w c dp n m V (some (hl, fu)) w') ∨
  (tst (txV V (some (hl, fu)) P) j = true ∧ e = .returned (.int .i64 0) ∧ MarkPost B w1 E w c dp n m V (some (addK hl P, updK fu P (setL (txV V (some (hl, fu)) P) j false))) w')
theorem give_in {B : Nat} {w1 w : World} {E : List Nat} {c dp n m : Nat} {V : Nat → List Nat} {hl : List Nat} {fu : Nat → List Nat} (h : BS B w1 E w c dp n m V (some (hl, fu))) (P : Nat) (b k f : Int) (hP0 : 245 ≤ P) (hP : P < n) (hn : n ≤ 2000) (hfull : fullB hl P = false) (hb0 : 0 ≤ b) (hb1 : b ≤ 100000) (hk1 : k ≤ 4096) (j : Nat) (hj0 : f ≤ j) (hj1 : (j : Int) < k) :
    Calls Tryz.prog 20 #[bmv c P b k f, .int .i64 (b + (j : Int))] w (GivePost B w1 E w c dp n m V hl fu P j) := by
  have hjI : (j : Int) < 4096 := by omega
  have hb0' : Below w.heap.size w (w.alloc (.cells (bma c P b k f) 49)) := (Below.refl _ _).alloc (Nat.le_refl _) _
  have hx0 := BxAt.new w c P b k f
  obtain ⟨h0, hs0⟩ := h.below hb0'
  have HO : Hid (Calls Tryz.prog 21 #[.pointer (some ⟨c, 0, none⟩)] (w.alloc (.cells (bma c P b k f) 49)) fun e w'' => e = .returned (.bool true) ∧ w'' = w.alloc (.cells (bma c P b k f) 49)) := h0.cs.openC
  have HG : Hid _ := mayGive_in h0 P b k f hP0 hP hn hb0 hb1 hk1 j hj0 hj1
  have HM : Hid (∀ w3, KBel (w.alloc (.cells (bma c P b k f) 49)) w3 → Six w.heap.size c P b k f w3 ∧ MarkPost B w1 E w c dp n m V (some (hl, fu)) w3 ∧ Calls Tryz.prog 41 #[bmv c P b k f, .int .i64 (j : Int), .bool false] w3 fun e w4 => e = .returned (.int .i64 0) ∧ MarkPost B w1 E w c dp n m V (some (addK hl P, updK fu P (setL (txV V (some (hl, fu)) P) j false))) w4) := fun w3 hk => by
    obtain ⟨h3, hs3⟩ := h0.below hk
    refine ⟨(hx0.blk (hk.block _ hx0.lt)).cells, ⟨h3, fun x hx => (hs3 x hx).trans (hs0 x hx)⟩, (mark_any h3 P b k f hP0 hP hn hfull j (by omega) false).mono ?_⟩
    rintro e w4 ⟨rfl, hm, hs4⟩
    exact ⟨rfl, hm, fun x hx => (hs4 x hx).trans ((hs3 x hx).trans (hs0 x hx))⟩
  have e1 : b + (j : Int) - b = (j : Int) := by omega
  obtain ⟨tj, HT⟩ : ∃ tj, Hid (tst (txV V (some (hl, fu)) P) j = tj) := ⟨_, rfl⟩
  rw [HT.out] at HG
  clear h h0 hs0 hx0 hb0' hj0 hj1
  unfold Six at HM
  unfold bmv at *
  unfold bma at *
  cases tj
  · go_enter Tryz.func20, Tryz.ntmps20
    go_wp2_with (first
      | (go_at_call 21; refine Calls.mono HO.out ?_; rintro e w2 ⟨rfl, hw⟩; subst w2)
      | (go_at_call 42; refine Calls.mono HG.out ?_; rintro e w3 ⟨rfl, hk3⟩; obtain ⟨⟨q0, q1, q2, q3, q4, q5⟩, q6, q7⟩ := HM.out w3 hk3))
    go_ret
    exact .inl ⟨HT.out, rfl, q6⟩
  · go_enter Tryz.func20, Tryz.ntmps20
    go_wp2_with (first
      | (go_at_call 21; refine Calls.mono HO.out ?_; rintro e w2 ⟨rfl, hw⟩; subst w2)
      | (go_at_call 42; refine Calls.mono HG.out ?_; rintro e w3 ⟨rfl, hk3⟩; obtain ⟨⟨q0, q1, q2, q3, q4, q5⟩, q6, q7⟩ := HM.out w3 hk3; have HQ : Hid _ := q7; clear q7)
      | (go_at_call 41; refine Calls.mono HQ.out ?_; rintro e w4 ⟨rfl, hm⟩))
    go_ret
    exact .inr ⟨HT.out, rfl, hm⟩
end Go.Proofs.YtpjeidihcjljnaaGreatDoor
namespace Go.Proofs.YtpjeidihcjljnaaGreatDoor
set_option linter.unusedSimpArgs false
set_option linter.unusedVariables false
set_option maxRecDepth 100000
open Go.RowKit Go.MapKept Go.Proofs
/-- The two maps of an Alloc: of data blocks (block 247: b, k), of inodes (block 246: i). -/
def ala (c : Nat) (b k i : Int) : Array Value := #[.pointer (some ⟨c, 0, none⟩), .int .i64 247, .int .i64 248, .int .i64 b, .int .i64 k, .int .i64 0, .pointer (some ⟨c, 0, none⟩), .int .i64 246, .int .i64 247, .int .i64 0, .int .i64 i, .int .i64 1]
def AlAt (w : World) (a c : Nat) (b k i : Int) : Prop := w.heap[a]? = some (.cells (ala c b k i) 74 (0, 0))
def Twelve (a c : Nat) (b k i : Int) (w : World) : Prop := w.cell? ⟨a, 0, none⟩ = some (.pointer (some ⟨c, 0, none⟩)) ∧ w.cell? ⟨a, 1, none⟩ = some (.int .i64 247) ∧ w.cell? ⟨a, 2, none⟩ = some (.int .i64 248) ∧ w.cell? ⟨a, 3, none⟩ = some (.int .i64 b) ∧ w.cell? ⟨a, 4, none⟩ = some (.int .i64 k) ∧ w.cell? ⟨a, 5, none⟩ = some (.int .i64 0) ∧ w.cell? ⟨a, 6, none⟩ = some (.pointer (some ⟨c, 0, none⟩)) ∧ w.cell? ⟨a, 7, none⟩ = some (.int .i64 246) ∧ w.cell? ⟨a, 8, none⟩ = some (.int .i64 247) ∧ w.cell? ⟨a, 9, none⟩ = some (.int .i64 0) ∧ w.cell? ⟨a, 10, none⟩ = some (.int .i64 i) ∧ w.cell? ⟨a, 11, none⟩ = some (.int .i64 1)
theorem AlAt.cells {w : World} {a c : Nat} {b k i : Int} (h : AlAt w a c b k i) : Twelve a c b k i w := by
  refine ⟨?_, ?_, ?_, ?_, ?_, ?_, ?_, ?_, ?_, ?_, ?_, ?_⟩ <;> rw [cell_of_row _ _ _ _ _ _ h] <;> rfl
theorem AlAt.lt {w : World} {a c : Nat} {b k i : Int} (h : AlAt w a c b k i) : a < w.heap.size := (Array.getElem?_eq_some_iff.1 h).1
theorem AlAt.blk {w w' : World} {a c : Nat} {b k i : Int} (h : AlAt w a c b k i) (e : w'.heap[a]? = w.heap[a]?) : AlAt w' a c b k i := e.trans h
def bmB (c : Nat) (b k : Int) : Array Value := #[.pointer (some ⟨c, 0, none⟩), .int .i64 247, .int .i64 248, .int .i64 b, .int .i64 k, .int .i64 0]
def bmI (c : Nat) (i : Int) : Array Value := #[.pointer (some ⟨c, 0, none⟩), .int .i64 246, .int .i64 247, .int .i64 0, .int .i64 i, .int .i64 1]
theorem bmB_eq (c : Nat) (b k : Int) : Value.agg (bmB c b k) = bmv c ((247 : Nat) : Int) b k 0 := rfl
theorem bmI_eq (c : Nat) (i : Int) : Value.agg (bmI c i) = bmv c ((246 : Nat) : Int) 0 i 1 := rfl
theorem results_cell_cell {fn : Func} {p u : Tmp} {ty tz : TypeId} (h : fn.results = #[.cell p ty, .cell u tz]) (tmps : Array Value) (P : Program) (w : World) :
    (results fn tmps).run P w =
      ((asAddr (tmps.getD p undef)).run P w).andThen fun a w₁ => ((loadVar ty a).run P w₁).andThen fun v w₂ => ((asAddr (tmps.getD u undef)).run P w₂).andThen fun a2 w₃ => ((loadVar tz a2).run P w₃).andThen fun v2 w₄ => .ok (.tuple #[v, v2]) w₄ := by
  simp only [results, h]
  simp [Sem.run_bind, Result.andThen]
theorem maps_any {w : World} {a c : Nat} {b k i : Int} (h : AlAt w a c b k i) :
    Calls Tryz.prog 18 #[.pointer (some ⟨a, 0, none⟩)] w fun e w' => e = .returned (.tuple #[.agg (bmB c b k), .agg (bmI c i)]) ∧ KBel w w' := by
  have hlt := h.lt
  have hne : ¬ (a = w.heap.size) := by omega
  have hne2 : ¬ (a = w.heap.size + 1) := by omega
  obtain ⟨c0, c1, c2, c3, c4, c5, c6, c7, c8, c9, c10, c11⟩ := h.cells
  clear h
  unfold bmB bmI
  go_enter Tryz.func18, Tryz.ntmps18
  go_wp2
  go_region
  go_wp2
  refine bodyPost_ret ?_ rfl ⟨rfl, ?_⟩
  · rw [results_cell_cell rfl]; go_simp
  · exact (bel2 w _ _).drew
theorem anew_any (c : Nat) (n i da dc : Int) (w : World) :
    Calls Tryz.prog 14 #[.pointer (some ⟨c, 0, none⟩), Pl.v ⟨n, i, 246, 247, 248, da, dc⟩] w fun e w' => e = .returned (.pointer (some ⟨w.heap.size + 1, 0, none⟩)) ∧ AlAt w' (w.heap.size + 1) c da dc i ∧ KBel w w' := by
  unfold Pl.v
  go_enter Tryz.func14, Tryz.ntmps14
  go_wp2
  go_ret
  refine ⟨rfl, ?_, bel2 w _ _⟩
  show ((w.alloc _).alloc _).heap[w.heap.size + 1]? = _
  have := heap_alloc_new (w.alloc (.cells #[.int .i64 n, .int .i64 i, .int .i64 246, .int .i64 247, .int .i64 248, .int .i64 da, .int .i64 dc] 27)) (.cells (ala c da dc i) 74)
  rw [show (w.alloc (.cells #[.int .i64 n, .int .i64 i, .int .i64 246, .int .i64 247, .int .i64 248, .int .i64 da, .int .i64 dc] 27)).heap.size = w.heap.size + 1 by simp] at this
  exact this
theorem MarkPost.from {B : Nat} {w1 w w4 w' : World} {E : List Nat} {c dp n m : Nat} {V : Nat → List Nat} {X : Tx} (hs : Same E w w4) (h : MarkPost B w1 E w4 c dp n m V X w') : MarkPost B w1 E w c dp n m V X w' := ⟨h.1, fun x hx => (h.2 x hx).trans (hs x hx)⟩
theorem TakePost.from {B : Nat} {w1 w w4 w' : World} {E : List Nat} {c dp n m : Nat} {V : Nat → List Nat} {hl : List Nat} {fu : Nat → List Nat} {P : Nat} {b k : Int} {e : Ending} (hs : Same E w w4) (h : TakePost B w1 E w4 c dp n m V hl fu P b k e w') : TakePost B w1 E w c dp n m V hl fu P b k e w' :=
  h.imp (fun ⟨a, b, c⟩ => ⟨a, b, c.from hs⟩) (fun ⟨j, a, b, c⟩ => ⟨j, a, b, c.from hs⟩)
theorem GivePost.from {B : Nat} {w1 w w4 w' : World} {E : List Nat} {c dp n m : Nat} {V : Nat → List Nat} {hl : List Nat} {fu : Nat → List Nat} {P j : Nat} {e : Ending} (hs : Same E w w4) (h : GivePost B w1 E w4 c dp n m V hl fu P j e w') : GivePost B w1 E w c dp n m V hl fu P j e w' :=
  h.imp (fun ⟨a, b, c⟩ => ⟨a, b, c.from hs⟩) (fun ⟨a, b, c⟩ => ⟨a, b, c.from hs⟩)
theorem TakePost.shape {B : Nat} {w1 w w' : World} {E : List Nat} {c dp n m : Nat} {V : Nat → List Nat} {hl : List Nat} {fu : Nat → List Nat} {P : Nat} {b k : Int} {e : Ending} (h : TakePost B w1 E w c dp n m V hl fu P b k e w') : ∃ x y, e = .returned (.tuple #[.int .i64 x, .int .i64 y]) := by
  rcases h with ⟨rfl, _⟩ | ⟨j, rfl, _⟩
  · exact ⟨_, _, rfl⟩
  · exact ⟨_, _, rfl⟩
theorem GivePost.shape {B : Nat} {w1 w w' : World} {E : List Nat} {c dp n m : Nat} {V : Nat → List Nat} {hl : List Nat} {fu : Nat → List Nat} {P j : Nat} {e : Ending} (h : GivePost B w1 E w c dp n m V hl fu P j e w') : ∃ x, e = .returned (.int .i64 x) := by
  rcases h with ⟨_, rfl, _⟩ | ⟨_, rfl, _⟩
  · exact ⟨_, rfl⟩
  · exact ⟨_, rfl⟩
theorem takeBlock_any {B : Nat} {w1 w : World} {E : List Nat} {a c dp n m : Nat} {V : Nat → List Nat} {hl : List Nat} {fu : Nat → List Nat} (h : BS B w1 E w c dp n m V (some (hl, fu))) {b k i : Int} (hA : AlAt w a c b k i) (hn0 : 247 < n) (hn : n ≤ 2000) (hfull : fullB hl 247 = false) (hb0 : 0 ≤ b) (hb1 : b ≤ 100000) (hk0 : 0 ≤ k) (hk1 : k ≤ 4096) :
    Calls Tryz.prog 6 #[.pointer (some ⟨a, 0, none⟩)] w (TakePost B w1 E w c dp n m V hl fu 247 b k) := by
  have HMP : Hid _ := maps_any hA
  have HT : Hid (∀ w2, KBel w w2 → Calls Tryz.prog 19 #[.agg (bmB c b k)] ((w2.alloc (.cells (bmB c b k) 49)).alloc (.cells (bmI c i) 49)) fun e w' => ∃ x y, e = .returned (.tuple #[.int .i64 x, .int .i64 y]) ∧ TakePost B w1 E w c dp n m V hl fu 247 b k (.returned (.tuple #[.int .i64 x, .int .i64 y])) w') := fun w2 hk => by
    have hk2 := hk.step (bel2 w2 (.cells (bmB c b k) 49) (.cells (bmI c i) 49))
    obtain ⟨h4, hs4⟩ := h.below hk2
    refine (take_any h4 247 b k 0 (by omega) hn0 hn hfull hb0 hb1 hk0 hk1).mono fun e w' hp => ?_
    obtain ⟨x, y, rfl⟩ := hp.shape
    exact ⟨x, y, rfl, hp.from hs4⟩
  clear h hA
  generalize TakePost B w1 E w c dp n m V hl fu 247 b k = TP at *
  unfold bmB bmI at *
  go_enter Tryz.func6, Tryz.ntmps6
  go_wp2_with (first
    | (go_at_call 18; refine Calls.mono HMP.out ?_; rintro e w2 ⟨rfl, hk2⟩; have HT2 : Hid _ := HT.out w2 hk2)
    | (go_at_call 19; refine Calls.mono HT2.out ?_; rintro e w5 ⟨x, y, rfl, hp⟩))
  exact hp
theorem giveBlock_in {B : Nat} {w1 w : World} {E : List Nat} {a c dp n m : Nat} {V : Nat → List Nat} {hl : List Nat} {fu : Nat → List Nat} (h : BS B w1 E w c dp n m V (some (hl, fu))) {b k i : Int} (hA : AlAt w a c b k i) (hn0 : 247 < n) (hn : n ≤ 2000) (hfull : fullB hl 247 = false) (hb0 : 0 ≤ b) (hb1 : b ≤ 100000) (hk1 : k ≤ 4096) (j : Nat) (hj : (j : Int) < k) :
    Calls Tryz.prog 7 #[.pointer (some ⟨a, 0, none⟩), .int .i64 (b + (j : Int))] w (GivePost B w1 E w c dp n m V hl fu 247 j) := by
  have HMP : Hid _ := maps_any hA
  have HT : Hid (∀ w2, KBel w w2 → Calls Tryz.prog 20 #[.agg (bmB c b k), .int .i64 (b + (j : Int))] ((w2.alloc (.cells (bmB c b k) 49)).alloc (.cells (bmI c i) 49)) fun e w' => ∃ x, e = .returned (.int .i64 x) ∧ GivePost B w1 E w c dp n m V hl fu 247 j (.returned (.int .i64 x)) w') := fun w2 hk => by
    have hk2 := hk.step (bel2 w2 (.cells (bmB c b k) 49) (.cells (bmI c i) 49))
    obtain ⟨h4, hs4⟩ := h.below hk2
    refine (give_in h4 247 b k 0 (by omega) hn0 hn hfull hb0 hb1 hk1 j (by omega) hj).mono fun e w' hp => ?_
    obtain ⟨x, rfl⟩ := hp.shape
    exact ⟨x, rfl, hp.from hs4⟩
  clear h hA
  generalize GivePost B w1 E w c dp n m V hl fu 247 j = TP at *
  unfold bmB bmI at *
  go_enter Tryz.func7, Tryz.ntmps7
  go_wp2_with (first
    | (go_at_call 18; refine Calls.mono HMP.out ?_; rintro e w2 ⟨rfl, hk2⟩; have HT2 : Hid _ := HT.out w2 hk2)
    | (go_at_call 20; refine Calls.mono HT2.out ?_; rintro e w5 ⟨x, rfl, hp⟩))
  exact hp
end Go.Proofs.YtpjeidihcjljnaaGreatDoor
namespace Go.Proofs.YtpjeidihcjljnaaGreatDoor
set_option linter.unusedSimpArgs false
set_option linter.unusedVariables false
set_option maxRecDepth 100000
open Go.RowKit Go.MapKept Go.Proofs
theorem BS.wrote {B : Nat} {w1 w : World} {E : List Nat} {c dp n m : Nat} {V : Nat → List Nat} {hl : List Nat} {fu : Nat → List Nat} (h : BS B w1 E w c dp n m V (some (hl, fu))) (k : Nat) :
    Calls Tryz.prog 58 #[.pointer (some ⟨c, 0, none⟩), .int .i64 (k : Int)] w fun e w' => e = .returned (.bool (decide (k ∈ hl))) ∧ Below w.heap.size w w' := by
  obtain ⟨_, _, j, d, T, h1, _⟩ := h
  exact cwrote_any h1 k
/-- How many blocks of it are not written yet. -/
def unN (hl : List Nat) (P : Nat) : Int := if P ∈ hl then 0 else 1
def UwPost (w : World) (y : Nat) (v : Int) (e : Ending) (w' : World) : Prop := e = .returned (.tuple #[.bool true, .int .i64 0]) ∧ w'.heap[y]? = some (.cells #[.int .i64 v] 3 (0, 0)) ∧ Keeps [y] w w'
theorem unwV {B : Nat} {w1 w : World} {E : List Nat} {c dp n m : Nat} {V : Nat → List Nat} {hl : List Nat} {fu : Nat → List Nat} (h : BS B w1 E w c dp n m V (some (hl, fu))) (P : Nat) (b k f : Int) (hP1 : P ≤ 2000) (x y : Nat) (hx : BxAt w x c P b k f) (hy : w.heap[y]? = some (.cells #[.int .i64 0] 3 (0, 0))) (v : Value) :
    Calls Tryz.prog 57 #[.int .i64 0, v, .pointer (some ⟨x, 0, none⟩), .pointer (some ⟨y, 0, none⟩)] w (UwPost w y (unN hl P)) := by
  have hPI : (P : Int) ≤ 2000 := by omega
  have hS0 : Six x c P b k f _ := hx.cells
  have HHO : Hid _ := home_k hx 0 (by omega) (by omega) (by omega)
  have HWT : Hid (∀ w', KBel w w' → Calls Tryz.prog 58 #[.pointer (some ⟨c, 0, none⟩), .int .i64 (P : Int)] w' fun e w'' => e = .returned (.bool (decide (P ∈ hl))) ∧ KBel w w'' ∧ Six x c P b k f w'') := fun w' hk => by
    refine ((h.below hk).1.wrote P).mono ?_
    rintro e w'' ⟨rfl, hb⟩
    have h2 := hk.step hb
    exact ⟨rfl, h2, (hx.blk (h2.block _ hx.lt)).cells⟩
  have HY : Hid (∀ w', KBel w w' → w'.heap[y]? = some (.cells #[.int .i64 0] 3 (0, 0)) ∧ w'.cell? ⟨y, 0, none⟩ = some (.int .i64 0) ∧ w'.frozen? ⟨y, 0, none⟩ = false) := fun w' hk => by
    have h2 : w'.heap[y]? = some (.cells #[.int .i64 0] 3 (0, 0)) := (hk.block _ (Array.getElem?_eq_some_iff.1 hy).1).trans hy
    exact ⟨h2, by rw [cell_of_row _ _ _ _ _ _ h2]; rfl, frozen_of_row _ _ _ _ _ h2⟩
  obtain ⟨u, HU⟩ : ∃ u, Hid (decide (P ∈ hl) = u) := ⟨_, rfl⟩
  have HN : Hid (unN hl P = if u then 0 else 1) := by
    show _ = _
    rw [← HU.out]; unfold unN; split <;> simp_all
  rw [HU.out] at HWT
  generalize unN hl P = R at *
  clear h hx hy HU
  unfold Six at *
  unfold bmv at *
  unfold bma at *
  go_enter Tryz.func57, Tryz.ntmps57
  go_wp2
  go_region_held3 (fun w' : World => w'.cell? ⟨x, 0, none⟩ = some (.pointer (some ⟨c, 0, none⟩)) ∧ w'.cell? ⟨x, 1, none⟩ = some (.int .i64 (P : Int)) ∧ w'.cell? ⟨x, 2, none⟩ = some (.int .i64 ((P : Int) + 1)) ∧ w'.cell? ⟨x, 3, none⟩ = some (.int .i64 b) ∧ w'.cell? ⟨x, 4, none⟩ = some (.int .i64 k) ∧ w'.cell? ⟨x, 5, none⟩ = some (.int .i64 f)) (first | exact hS3 | exact hS2 | exact hS0)
    ((first
      | (go_at_call 59; refine (HHO.out _ (by exact ⟨rfl, rfl, rfl, Nat.le_refl _, fun _ _ => rfl⟩)).mono ?_; rintro e w2 ⟨rfl, hk2, hS2, _⟩)
      | (go_at_call 58; refine (HWT.out _ (by exact ⟨hk2.os, hk2.tape, hk2.output, hk2.size, hk2.block⟩)).mono ?_; rintro e w3 ⟨rfl, hk3, hS3⟩)))
  obtain ⟨y1, y2, y3⟩ := HY.out w3 hk3
  clear hS0 hS2 hS3
  cases u
  · go_wp2
    go_ret2
    refine ⟨rfl, ?_, (Keeps.of_below hk3 _).setCell _ _ (by simp)⟩
    have hR : R = 1 := HN.out
    rw [heap_setCell_same _ _ _ _ _ _ y1, hR]; rfl
  · go_wp2
    go_ret2
    have hR : R = 0 := HN.out
    exact ⟨rfl, by rw [hR]; exact y1, Keeps.of_below hk3 _⟩
def UEach (w : World) (v : Int) (er : Int) (w3 : World) : Prop := er = 0 ∧ w3.heap[w.heap.size + 1]? = some (.cells #[.int .i64 v] 3 (0, 0)) ∧ KBel w w3
theorem unw_each {B : Nat} {w1 w : World} {E : List Nat} {c dp n m : Nat} {V : Nat → List Nat} {hl : List Nat} {fu : Nat → List Nat} (h : BS B w1 E w c dp n m V (some (hl, fu))) (P : Nat) (b k f : Int) (hP0 : 245 ≤ P) (hP : P < n) (hn : n ≤ 2000) :
    Calls Tryz.prog 38 #[bmv c P b k f, .func (.func 57) #[] #[.pointer (some ⟨w.heap.size, 0, none⟩), .pointer (some ⟨w.heap.size + 1, 0, none⟩)]] (w2x w c P b k f 0) (EachPost (UEach w (unN hl P))) := by
  obtain ⟨f1, f2, f3, f4⟩ := w2x_facts w c P b k f 0
  have hB := (h.below f1).1
  refine each_any hB P b k f hP0 hP hn 57 _ (enters_of Tryz.func57 (by kernel_rfl) rfl) _ ?_
  intro w2 g ty hb2 hx2 hf2 hg2
  have hx : BxAt w2 w.heap.size c P b k f := f2.blk (hb2.block _ (by omega))
  have hy : w2.heap[w.heap.size + 1]? = some (.cells #[.int .i64 0] 3 (0, 0)) := (hb2.block _ (by omega)).trans f3
  refine (unwV (hB.below hb2).1 P b k f (by omega) w.heap.size (w.heap.size + 1) hx hy _).mono ?_
  rintro e w' ⟨rfl, hy', hk⟩
  have hlt : (w2x w c P b k f 0).heap.size < w2.heap.size := hx2.lt
  refine ⟨true, 0, rfl, hk.block _ hlt (by simp; omega), rfl, hy', ?_⟩
  exact f1.trans ((hb2.mono (by omega)).trans (hk.below (fun x hx => by simp at hx; omega) (by omega)))
theorem unwritten_any {B : Nat} {w1 w : World} {E : List Nat} {c dp n m : Nat} {V : Nat → List Nat} {hl : List Nat} {fu : Nat → List Nat} (h : BS B w1 E w c dp n m V (some (hl, fu))) (P : Nat) (b k f : Int) (hP0 : 245 ≤ P) (hP : P < n) (hn : n ≤ 2000) :
    Calls Tryz.prog 34 #[bmv c P b k f] w fun e w' => e = .returned (.tuple #[.int .i64 (unN hl P), .int .i64 0]) ∧ KBel w w' := by
  have HE : Hid _ := unw_each h P b k f hP0 hP hn
  clear h
  generalize unN hl P = v at *
  unfold w2x at HE
  unfold bmv at *
  unfold bma at *
  go_enter Tryz.func34, Tryz.ntmps34
  go_wp2_with (first
    | (go_at_call 38; refine Calls.mono HE.out ?_; rintro e w3 ⟨er, rfl, rfl, hy3, hk3⟩; have y0 : w3.cell? ⟨w.heap.size + 1, 0, none⟩ = some (.int .i64 v) := by rw [cell_of_row _ _ _ _ _ _ hy3]; rfl
       have yf : w3.frozen? ⟨w.heap.size + 1, 0, none⟩ = false := frozen_of_row _ _ _ _ _ hy3))
  have yz : (w3.setCell ⟨w.heap.size + 1, 0, none⟩ (.int .i64 v)).cell? ⟨w.heap.size + 1, 0, none⟩ = some (.int .i64 v) := by rw [cell_of_row _ _ _ _ _ _ (heap_setCell_same _ _ _ _ _ _ hy3)]; rfl
  refine bodyPost_ret (v := .tuple #[.int .i64 v, .int .i64 0]) ?_ rfl ⟨rfl, ?_⟩
  · rw [results_cell_tmp rfl]; go_simp
  · exact hk3.setCell (by simp) _
end Go.Proofs.YtpjeidihcjljnaaGreatDoor
namespace Go.Proofs.YtpjeidihcjljnaaGreatDoor
set_option linter.unusedSimpArgs false
set_option linter.unusedVariables false
set_option maxRecDepth 100000
open Go.RowKit Go.MapKept Go.Proofs
/-- A row that was just made, as its block. -/
theorem made_row {w : World} {B e g n : Nat} {xs : List Value} (h : w.ownsRow B e 1 (.slice (some ⟨g, 0, none⟩) n n) n xs) : w.heap[g]? = some (.cells xs.toArray e (0, 0)) := by
  rcases h.2 with ⟨q, _⟩ | ⟨g', cap', cur, q, _, hg, hle, hm, hcs, htk⟩
  · cases q
  · injection q with e1 e2 e3
    injection e1 with e1
    injection e1 with e1
    subst e1; subst e3
    have : cur.toList = xs := by rw [← htk]; exact (List.take_of_length_le (by simp [hcs])).symm
    rw [hg, ← this]
theorem made512 : (madeCells (Value.cells (.int .u8 0)) (512 * 1)).toList = cv zeros := by kernel_rfl
theorem set0_len : zeros.length = 512 := zeros_len
/-- What reset writes: f of the first bits are 1 (f: 0 or 1). -/
def rsL (f : Nat) : List Nat := if f = 0 then zeros else setL zeros (0 : Nat) true
theorem rsL_len (f : Nat) : (rsL f).length = 512 := by unfold rsL; split; exact zeros_len; rw [setL_length]; exact zeros_len
theorem rsL_lt (f : Nat) : ∀ i, (rsL f).getD i 0 < 256 := by unfold rsL; split; exact zeros_lt; exact setL_lt _ _ _ zeros_lt
theorem resV {B : Nat} {w1 w : World} {E : List Nat} {c dp n m : Nat} {V : Nat → List Nat} {hl : List Nat} {fu : Nat → List Nat} (h : BS B w1 E w c dp n m V (some (hl, fu))) (P : Nat) (b k : Int) (f : Nat) (hP0 : 245 ≤ P) (hP : P < n) (hn : n ≤ 2000) (hf : f ≤ 1) (hfull : fullB hl P = false) (x : Nat) (hxE : x ∈ E) (hx : BxAt w x c P b k f) (v : Value) :
    Calls Tryz.prog 60 #[.int .i64 0, v, .pointer (some ⟨x, 0, none⟩)] w fun e w' => e = .returned (.tuple #[.bool true, .int .i64 0]) ∧ MarkPost B w1 E w c dp n m V (some (addK hl P, updK fu P (rsL f))) w' := by
  have hPI : (P : Int) ≤ 2000 := by omega
  obtain ⟨c0, c1, c2, c3, c4, c5⟩ := hx.cells
  obtain ⟨i0, hi, hz0, hz1, hz2⟩ := info_parts Tryz.info5
  have HHO : Hid _ := home_k hx 0 (by omega) (by omega) (by omega)
  have HSE : Hid _ := fun (g ty : Nat) => set_k (g := g) (ty := ty) hx zeros_len zeros_lt 0 (by omega) true
  have HSX : Hid (∀ w', KBel w w' → Six x c P b k f w') := fun w' hk => (hx.blk (hk.block _ hx.lt)).cells
  have HWR : Hid (∀ w' g5, KBel w w' → Full w' g5 5 (rsL f) → Calls Tryz.prog 62 #[.pointer (some ⟨c, 0, none⟩), .int .i64 (P : Int), .slice (some ⟨g5, 0, none⟩) 512 512] w' fun e w'' => e = .returned (.int .i64 0) ∧ Six x c P b k f w'' ∧ MarkPost B w1 E w c dp n m V (some (addK hl P, updK fu P (rsL f))) w'') := fun w' g5 hk hf5 => by
    obtain ⟨h5, hs5⟩ := h.below hk
    refine (h5.write P hP0 hP hfull hf5 (rsL_len _) (rsL_lt _)).mono ?_
    rintro e w'' ⟨rfl, a, b⟩
    exact ⟨rfl, (hx.blk ((b x hxE).trans (hs5 x hxE))).cells, a, fun x hx => (b x hx).trans (hs5 x hx)⟩
  clear h hx
  generalize MarkPost B w1 E w c dp n m V (some (addK hl P, updK fu P (rsL f))) = MP at *
  unfold Six at *
  unfold bmv at *
  unfold bma at *
  go_enter Tryz.func60, Tryz.ntmps60
  go_wp2_with (first
    | (at_make; refine wpList_make_full _ rfl _ _ 65 rfl w.heap.size 5 i0 (.int .u8 0) 1 Tryz.underlying65 hi hz0 hz1 .i64 .i64 _ _ 512 rfl rfl rfl rfl (by rw [hz2]; omega) (by decide) (Nat.le_refl _) ?_; intro w2 hown hg; have hk2 := below_made hg; have hr2 := made_row hown; rw [made512] at hr2; clear hown hg))
  go_loopw [7, 8] (fun s i wr => (i = .int .i64 0 ∧ s = .slice (some ⟨w.heap.size, 0, none⟩) 512 512 ∧ wr = w2) ∨ (f = 1 ∧ i = .int .i64 1 ∧ ∃ g, s = .slice (some ⟨g, 0, none⟩) 512 512 ∧ KBel w wr ∧ Full wr g 5 (rsL 1))) (fun _ i _ => 2 - (intOf i).toNat)
  case atStart => exact .inl ⟨rfl, rfl, rfl⟩
  case round =>
    rcases hrel with ⟨rfl, rfl, rfl⟩ | ⟨rfl, rfl, g, rfl, hk, hg⟩
    · obtain ⟨q0, q1, q2, q3, q4, q5⟩ := HSX.out wr hk2
      rcases Nat.eq_zero_or_pos f with rfl | hf1
      · have hr3 : Full wr w.heap.size 5 (rsL 0) := hr2
        clear hr2
        have hSx := HSX.out wr hk2
        go_wp2
        go_region_held3 (fun w' : World => w'.cell? ⟨x, 0, none⟩ = some (.pointer (some ⟨c, 0, none⟩)) ∧ w'.cell? ⟨x, 1, none⟩ = some (.int .i64 (P : Int)) ∧ w'.cell? ⟨x, 2, none⟩ = some (.int .i64 ((P : Int) + 1)) ∧ w'.cell? ⟨x, 3, none⟩ = some (.int .i64 b) ∧ w'.cell? ⟨x, 4, none⟩ = some (.int .i64 k) ∧ w'.cell? ⟨x, 5, none⟩ = some (.int .i64 0)) (first | exact hS4 | exact hS3 | exact hSx)
          ((first
            | (go_at_call 59; refine (HHO.out _ (by exact ⟨hk2.os, hk2.tape, hk2.output, hk2.size, hk2.block⟩)).mono ?_; rintro e w3 ⟨rfl, hk3, hS3, hfh⟩; have hf3 := hfh _ _ _ hr3)
            | (go_at_call 62; refine (HWR.out _ _ (by exact ⟨hk3.os, hk3.tape, hk3.output, hk3.size, hk3.block⟩) (by exact hf3)).mono ?_; rintro e w4 ⟨rfl, hS4, hm4⟩)))
        go_wp2
        go_ret2
        exact ⟨rfl, hm4⟩
      · obtain rfl : f = 1 := by omega
        have HS1 : Hid _ := HSE.out w.heap.size 5 wr hk2 hr2
        clear hr2
        go_wp2_with (first
          | (go_at_call 61; refine Calls.mono HS1.out ?_; rintro e w3 ⟨g5, rfl, hk5, hS5, hf5⟩))
        exact ⟨.inr ⟨trivial, by go_num, g5, rfl, hk5, hf5⟩, by simp [intOf]⟩
    · obtain ⟨q0, q1, q2, q3, q4, q5⟩ := HSX.out wr hk
      have hSx := HSX.out wr hk
      go_wp2
      go_region_held3 (fun w' : World => w'.cell? ⟨x, 0, none⟩ = some (.pointer (some ⟨c, 0, none⟩)) ∧ w'.cell? ⟨x, 1, none⟩ = some (.int .i64 (P : Int)) ∧ w'.cell? ⟨x, 2, none⟩ = some (.int .i64 ((P : Int) + 1)) ∧ w'.cell? ⟨x, 3, none⟩ = some (.int .i64 b) ∧ w'.cell? ⟨x, 4, none⟩ = some (.int .i64 k) ∧ w'.cell? ⟨x, 5, none⟩ = some (.int .i64 1)) (first | exact hS4 | exact hS3 | exact hSx)
        ((first
          | (go_at_call 59; refine (HHO.out _ (by exact ⟨hk.os, hk.tape, hk.output, hk.size, hk.block⟩)).mono ?_; rintro e w3 ⟨rfl, hk3, hS3, hfh⟩; have hf3 := hfh _ _ _ hg)
          | (go_at_call 62; refine (HWR.out _ _ (by exact ⟨hk3.os, hk3.tape, hk3.output, hk3.size, hk3.block⟩) (by exact hf3)).mono ?_; rintro e w4 ⟨rfl, hS4, hm4⟩)))
      go_wp2
      go_ret2
      exact ⟨rfl, hm4⟩
end Go.Proofs.YtpjeidihcjljnaaGreatDoor
namespace Go.Proofs.YtpjeidihcjljnaaGreatDoor
set_option linter.unusedSimpArgs false
set_option linter.unusedVariables false
set_option maxRecDepth 100000
open Go.RowKit Go.MapKept Go.Proofs
def REach (MP : World → Prop) (er : Int) (w3 : World) : Prop := er = 0 ∧ MP w3
theorem res_each {B : Nat} {w1 w : World} {E : List Nat} {c dp n m : Nat} {V : Nat → List Nat} {hl : List Nat} {fu : Nat → List Nat} (h : BS B w1 E w c dp n m V (some (hl, fu))) (P : Nat) (b k : Int) (f : Nat) (hP0 : 245 ≤ P) (hP : P < n) (hn : n ≤ 2000) (hf : f ≤ 1) (hfull : fullB hl P = false) :
    Calls Tryz.prog 38 #[bmv c P b k f, .func (.func 60) #[] #[.pointer (some ⟨w.heap.size, 0, none⟩)]] (w.alloc (.cells (bma c P b k f) 49)) (EachPost (REach (MarkPost B w1 E w c dp n m V (some (addK hl P, updK fu P (rsL f)))))) := by
  have hb0 : Below w.heap.size w (w.alloc (.cells (bma c P b k f) 49)) := (Below.refl _ _).alloc (Nat.le_refl _) _
  have hx0 := BxAt.new w c P b k f
  have hB := h.box hb0 (Nat.le_refl _) hx0.lt
  refine each_any hB P b k f hP0 hP hn 60 _ (enters_of Tryz.func60 (by kernel_rfl) rfl) _ ?_
  intro w2 g ty hb2 hx2 hf2 hg2
  have hx : BxAt w2 w.heap.size c P b k f := hx0.blk (hb2.block _ hx0.lt)
  have hB2 := hB.box hb2 (Nat.le_refl _) hx2.lt
  refine (resV hB2 P b k f hP0 hP hn hf hfull w.heap.size (by simp) hx _).mono ?_
  rintro e w' ⟨rfl, hm, hs⟩
  refine ⟨true, 0, rfl, hs _ (by simp), rfl, hm.ext (fun x hx => by simp [hx]), fun y hy => (hs y (by simp [hy])).trans ?_⟩
  have hlt := (h.ge y hy).2
  exact (hb2.block y (by rw [show (w.alloc (.cells (bma c P b k f) 49)).heap.size = w.heap.size + 1 by simp]; omega)).trans (hb0.block y hlt)
theorem reset_any {B : Nat} {w1 w : World} {E : List Nat} {c dp n m : Nat} {V : Nat → List Nat} {hl : List Nat} {fu : Nat → List Nat} (h : BS B w1 E w c dp n m V (some (hl, fu))) (P : Nat) (b k : Int) (f : Nat) (hP0 : 245 ≤ P) (hP : P < n) (hn : n ≤ 2000) (hf : f ≤ 1) (hfull : fullB hl P = false) :
    Calls Tryz.prog 35 #[bmv c P b k f] w fun e w' => e = .returned (.int .i64 0) ∧ MarkPost B w1 E w c dp n m V (some (addK hl P, updK fu P (rsL f))) w' := by
  have HE : Hid _ := res_each h P b k f hP0 hP hn hf hfull
  clear h
  generalize MarkPost B w1 E w c dp n m V (some (addK hl P, updK fu P (rsL f))) = MP at *
  unfold bmv at *
  unfold bma at *
  go_enter Tryz.func35, Tryz.ntmps35
  go_wp2_with (first
    | (go_at_call 38; refine Calls.mono HE.out ?_; rintro e w3 ⟨er, rfl, rfl, hm⟩))
  go_ret
  exact ⟨rfl, hm⟩
/-- Format's transaction. -/
def fmX (hl : List Nat) (fu : Nat → List Nat) : Tx := some (addK (addK hl 247) 246, updK (updK fu 247 (rsL 0)) 246 (rsL 1))
def w4x (w : World) (c : Nat) (b k i : Int) : World := (w.alloc (.cells (bmB c b k) 49)).alloc (.cells (bmI c i) 49)
theorem w4x_facts (w : World) (c : Nat) (b k i : Int) : Below w.heap.size w (w4x w c b k i) ∧ BxAt (w4x w c b k i) w.heap.size c ((247 : Nat) : Int) b k 0 ∧ BxAt (w4x w c b k i) (w.heap.size + 1) c ((246 : Nat) : Int) 0 i 1 ∧ (w4x w c b k i).heap.size = w.heap.size + 2 := by
  have b1 : Below w.heap.size w (w.alloc (.cells (bmB c b k) 49)) := (Below.refl _ _).alloc (Nat.le_refl _) _
  have s1 : (w.alloc (.cells (bmB c b k) 49)).heap.size = w.heap.size + 1 := by simp
  have b2 : Below (w.heap.size + 1) (w.alloc (.cells (bmB c b k) 49)) (w4x w c b k i) := (Below.refl _ _).alloc (by omega) _
  have h1 : BxAt (w.alloc (.cells (bmB c b k) 49)) w.heap.size c ((247 : Nat) : Int) b k 0 := heap_alloc_new _ _
  refine ⟨b1.trans (b2.mono (by omega)), h1.blk (b2.block _ (by omega)), ?_, ?_⟩
  · have := heap_alloc_new (w.alloc (.cells (bmB c b k) 49)) (.cells (bmI c i) 49)
    rw [s1] at this
    exact this
  · show ((w.alloc _).heap.push _).size = _
    simp
def w5x (w : World) (c : Nat) (b k i : Int) : World := (w4x w c b k i).alloc (.cells (ala c b k i) 49)
theorem w5x_facts (w : World) (c : Nat) (b k i : Int) : Below w.heap.size w (w5x w c b k i) ∧ (∀ w', KBel (w5x w c b k i) w' → Twelve (w.heap.size + 1 + 1) c b k i w' ∧ BxAt w' w.heap.size c ((247 : Nat) : Int) b k 0 ∧ BxAt w' (w.heap.size + 1) c ((246 : Nat) : Int) 0 i 1) ∧ (w5x w c b k i).heap.size = w.heap.size + 3 := by
  obtain ⟨f1, f2, f3, f4⟩ := w4x_facts w c b k i
  have b2 : Below (w.heap.size + 2) (w4x w c b k i) (w5x w c b k i) := (Below.refl _ _).alloc (by omega) _
  have hs : (w5x w c b k i).heap.size = w.heap.size + 3 := by
    show ((w4x w c b k i).heap.push _).size = _
    simp [f4]
  refine ⟨f1.trans (b2.mono (by omega)), fun w' hk => ⟨?_, f2.blk ((hk.block _ (by omega)).trans (b2.block _ (by omega))), f3.blk ((hk.block _ (by omega)).trans (b2.block _ (by omega)))⟩, hs⟩
  have h0 := heap_alloc_new (w4x w c b k i) (.cells (ala c b k i) 49)
  rw [f4] at h0
  have h1 : w'.heap[w.heap.size + 1 + 1]? = some (.cells (ala c b k i) 49 (0, 0)) := (hk.block _ (by omega)).trans h0
  refine ⟨?_, ?_, ?_, ?_, ?_, ?_, ?_, ?_, ?_, ?_, ?_, ?_⟩ <;> rw [cell_of_row _ _ _ _ _ _ h1] <;> rfl
theorem format_any {B : Nat} {w1 w : World} {E : List Nat} {a c dp n m : Nat} {V : Nat → List Nat} (h : BS B w1 E w c dp n m V tx0) {b k i : Int} (hA : AlAt w a c b k i) (hn0 : 247 < n) (hn : n ≤ 2000) :
    Calls Tryz.prog 16 #[.pointer (some ⟨a, 0, none⟩)] w fun e w' => e = .returned (.int .i64 0) ∧ MarkPost B w1 E w c dp n m V (fmX [] (fun _ => zeros)) w' := by
  have HMP : Hid _ := maps_any hA
  have HO : Hid (∀ w2, KBel w w2 → Calls Tryz.prog 21 #[.pointer (some ⟨c, 0, none⟩)] (w4x w2 c b k i) fun e w'' => e = .returned (.bool true) ∧ w'' = w4x w2 c b k i) := fun w2 hk => (h.below (hk.step (w4x_facts w2 c b k i).1)).1.cs.openC
  have HD : Hid (∀ w2, KBel w w2 → Calls Tryz.prog 33 #[.pointer (some ⟨c, 0, none⟩)] (w4x w2 c b k i) fun e w'' => e = .returned (.int .i64 0) ∧ w'' = w4x w2 c b k i) := fun w2 hk => (h.below (hk.step (w4x_facts w2 c b k i).1)).1.cs.dirty
  have HTW : Hid (∀ w2 w', KBel (w5x w2 c b k i) w' → Twelve (w2.heap.size + 1 + 1) c b k i w' ∧ Six w2.heap.size c 247 b k 0 w') := fun w2 w' hk => by
    obtain ⟨q1, q2, q3⟩ := (w5x_facts w2 c b k i).2.1 w' hk
    exact ⟨q1, q2.cells⟩
  have HU1 : Hid (∀ w2, KBel w w2 → ∀ w', KBel (w5x w2 c b k i) w' → Calls Tryz.prog 34 #[.agg (bmB c b k)] (w'.alloc (.cells (bmB c b k) 49)) fun e w'' => e = .returned (.tuple #[.int .i64 1, .int .i64 0]) ∧ KBel (w5x w2 c b k i) w'') := fun w2 hk w' hk' => by
    have hk3 : KBel (w5x w2 c b k i) (w'.alloc (.cells (bmB c b k) 49)) := hk'.alloc hk'.size _
    have hk5 := hk.step (w5x_facts w2 c b k i).1
    refine (unwritten_any (h.below (hk5.step hk3)).1 247 b k 0 (by omega) hn0 hn).mono ?_
    rintro e w'' ⟨rfl, q⟩
    exact ⟨rfl, hk3.step q⟩
  have HU2 : Hid (∀ w2, KBel w w2 → ∀ w', KBel (w5x w2 c b k i) w' → Calls Tryz.prog 34 #[.agg (bmI c i)] (w'.alloc (.cells (bmI c i) 49)) fun e w'' => e = .returned (.tuple #[.int .i64 1, .int .i64 0]) ∧ KBel (w5x w2 c b k i) w'') := fun w2 hk w' hk' => by
    have hk3 : KBel (w5x w2 c b k i) (w'.alloc (.cells (bmI c i) 49)) := hk'.alloc hk'.size _
    have hk5 := hk.step (w5x_facts w2 c b k i).1
    refine (unwritten_any (h.below (hk5.step hk3)).1 246 0 i 1 (by omega) (by omega) hn).mono ?_
    rintro e w'' ⟨rfl, q⟩
    exact ⟨rfl, hk3.step q⟩
  have HR1 : Hid (∀ w2, KBel w w2 → ∀ w', KBel (w5x w2 c b k i) w' → Calls Tryz.prog 35 #[.agg (bmB c b k)] w' fun e w'' => e = .returned (.int .i64 0) ∧ Six (w2.heap.size + 1) c 246 0 i 1 w'' ∧ MarkPost B w1 E w c dp n m V (some ([247], updK (fun _ => zeros) 247 (rsL 0))) w'') := fun w2 hk w' hk' => by
    obtain ⟨g1, g2, g3⟩ := w5x_facts w2 c b k i
    obtain ⟨q1, q2, q3⟩ := g2 w' hk'
    obtain ⟨h2, s2⟩ := h.below hk
    have h3 := h2.two (g1.trans (hk'.mono (by omega))) (by have := hk'.size; omega)
    refine (reset_any h3 247 b k 0 (by omega) hn0 hn (by omega) rfl).mono ?_
    rintro e w'' ⟨rfl, hm, hs⟩
    refine ⟨rfl, (q3.blk (hs _ (by simp))).cells, hm.ext (fun x hx => by simp [hx]), fun x hx => (hs x (by simp [hx])).trans (((g1.trans (hk'.mono (by omega))).block x (h2.ge x hx).2).trans (s2 x hx))⟩
  have HR2 : Hid (∀ w', MarkPost B w1 E w c dp n m V (some ([247], updK (fun _ => zeros) 247 (rsL 0))) w' → Calls Tryz.prog 35 #[.agg (bmI c i)] w' fun e w'' => e = .returned (.int .i64 0) ∧ MarkPost B w1 E w c dp n m V (fmX [] (fun _ => zeros)) w'') := fun w' hm => by
    refine (reset_any hm.1 246 0 i 1 (by omega) (by omega) hn (by omega) rfl).mono ?_
    rintro e w'' ⟨rfl, hm2⟩
    exact ⟨rfl, hm2.from hm.2⟩
  clear h hA
  generalize MarkPost B w1 E w c dp n m V (some ([247], updK (fun _ => zeros) 247 (rsL 0))) = MA at *
  generalize MarkPost B w1 E w c dp n m V (fmX [] (fun _ => zeros)) = MP at *
  unfold Six Twelve at *
  unfold w5x at *
  unfold w4x at *
  unfold bmB bmI ala at *
  go_enter Tryz.func16, Tryz.ntmps16
  go_wp2_with (first
    | (go_at_call 18; refine Calls.mono HMP.out ?_; rintro e w2 ⟨rfl, hk2⟩)
    | (go_at_call 21; refine (HO.out w2 hk2).mono ?_; rintro e w3 ⟨rfl, hw⟩; subst w3)
    | (go_at_call 33; refine (HD.out w2 hk2).mono ?_; rintro e w3 ⟨rfl, hw⟩; subst w3))
  have HT2 : Hid _ := HTW.out w2
  have HA1 : Hid _ := HU1.out w2 hk2
  have HA2 : Hid _ := HU2.out w2 hk2
  have HB1 : Hid _ := HR1.out w2 hk2
  clear HTW HU1 HU2 HR1 HO HD HMP
  obtain ⟨WB, HWB⟩ : ∃ WB, Hid (WB = ((w2.alloc (.cells #[.pointer (some ⟨c, 0, none⟩), .int .i64 247, .int .i64 248, .int .i64 b, .int .i64 k, .int .i64 0] 49)).alloc (.cells #[.pointer (some ⟨c, 0, none⟩), .int .i64 246, .int .i64 247, .int .i64 0, .int .i64 i, .int .i64 1] 49)).alloc (.cells #[.pointer (some ⟨c, 0, none⟩), .int .i64 247, .int .i64 248, .int .i64 b, .int .i64 k, .int .i64 0, .pointer (some ⟨c, 0, none⟩), .int .i64 246, .int .i64 247, .int .i64 0, .int .i64 i, .int .i64 1] 49)) := ⟨_, rfl⟩
  rw [← HWB.out] at HT2 HA1 HA2 HB1
  go_loopw [6, 29] (fun r j wr => KBel WB wr ∧ ((r = .int .i64 60 ∧ j = .int .i64 0) ∨ (r = .int .i64 59 ∧ j = .int .i64 1) ∨ (r = .int .i64 58 ∧ j = .int .i64 2))) (fun _ j _ => 3 - (intOf j).toNat)
  case atStart => rw [HWB.out]; exact ⟨Below.refl _ _, .inl ⟨rfl, rfl⟩⟩
  case round =>
    obtain ⟨hk, hj⟩ := hrel
    obtain ⟨⟨t0, t1, t2, t3, t4, t5, t6, t7, t8, t9, t10, t11⟩, p0, p1, p2, p3, p4, p5⟩ := HT2.out wr hk
    have HC1 : Hid _ := HA1.out wr hk
    have HC2 : Hid _ := HA2.out wr hk
    have HD1 : Hid _ := HB1.out wr hk
    rcases hj with ⟨rfl, rfl⟩ | ⟨rfl, rfl⟩ | ⟨rfl, rfl⟩
    · go_wp2_with (go_at_call 34; refine Calls.mono HC1.out ?_; rintro e w6 ⟨rfl, hk6⟩)
      exact ⟨⟨hk6, .inr (.inl ⟨rfl, rfl⟩)⟩, by simp [intOf]⟩
    · go_wp2_with (go_at_call 34; refine Calls.mono HC2.out ?_; rintro e w6 ⟨rfl, hk6⟩)
      exact ⟨⟨hk6, .inr (.inr ⟨rfl, rfl⟩)⟩, by simp [intOf]⟩
    · go_wp2_with (first
        | (go_at_call 35; refine Calls.mono HD1.out ?_; rintro e w6 ⟨rfl, ⟨q0, q1, q2, q3, q4, q5⟩, hm6⟩; have HE2 : Hid _ := HR2.out w6 hm6)
        | (go_at_call 35; refine Calls.mono HE2.out ?_; rintro e w7 ⟨rfl, hm7⟩))
      go_ret
      exact ⟨rfl, hm7⟩
end Go.Proofs.YtpjeidihcjljnaaGreatDoor
