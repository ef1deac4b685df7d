/- New, Saw whatever it is told, one, awake. -/
import Derived.Test.YtnnljdnaipjoiaaSv
namespace Go.Proofs.Ytnnljdnaipjoiaa
set_option linter.unusedSimpArgs false
set_option linter.unusedVariables false
open Go.RowKit Go.MapKept
theorem saw_any (p : Nat) (v1 v2 v3 : Option Nat) (S : LS) (tp : ByteArray) (pt st nx fr : Int) (a : Option Addr) (cap : Nat) (ss : List Bs) (w : World) (hl : LogIs w p v1 v2 v3 S) (hi : BIn w a ss) (ht : tp.size ≤ 281474976710656) (hN : In64 fr ∧ In64 st ∧ In64 nx) :
    Calls Try.prog 11 #[.pointer (some ⟨p, 0, none⟩), .string tp, .int .i64 pt, .int .i64 st, .int .i64 nx, .int .i64 fr, .slice a ss.length cap] w fun e w' => SawP w p v1 v2 v3 (saw S (tp, pt) st nx fr (bsOf ss)) e w' := by
  cases h1 : fallsB S (tp, pt) st nx with
  | true => exact saw_falls p v1 v2 v3 S tp pt st nx fr a cap ss w hl hi ht hN h1
  | false =>
    cases h2 : placedB (bsOf ss) fr st nx with
    | false => exact saw_placed p v1 v2 v3 S tp pt st nx fr a cap ss w hl hi ht hN h1 h2
    | true =>
      cases h3 : agrs sameR S.rc (recKs (tp, pt) (bsOf ss)) (fun _ => none) with
      | none => exact saw_changed p v1 v2 v3 S tp pt st nx fr a cap ss w hl hi ht hN h1 h2 h3
      | some F =>
        cases h4 : agrs sameI S.bs (batKs (tp, pt) (bsOf ss)) (fun _ => none) with
        | none => exact saw_twice p v1 v2 v3 S tp pt st nx fr a cap ss w hl hi ht hN h1 h2 F h3 h4
        | some G => exact saw_right p v1 v2 v3 S tp pt st nx fr a cap ss w hl hi ht hN h1 h2 F h3 G h4
theorem saw_nil (tp : ByteArray) (pt st nx fr : Int) (a : Option Addr) (n cap : Nat) (w : World) : Calls Try.prog 11 #[.pointer none, .string tp, .int .i64 pt, .int .i64 st, .int .i64 nx, .int .i64 fr, .slice a n cap] w fun e w' => e = .returned (.int .i64 0) ∧ w' = w := by
  go_enter Try.func11, Try.ntmps11
  go_wp2
  go_ret
  exact ⟨rfl, rfl⟩
theorem LogIs.zero (w : World) : LogIs (w.alloc (.cells #[.map none, .map none, .map none] 59)) w.heap.size none none none ls0 :=
  ⟨heap_alloc_new w _, .inl ⟨rfl, fun _ => rfl⟩, .inl ⟨rfl, fun _ => rfl⟩, .inl ⟨rfl, fun _ => rfl⟩, (fun _ e => by cases e), (fun _ e => by cases e), (fun _ e => by cases e)⟩
theorem new_any (w : World) : Calls Try.prog 10 #[] w fun e w' => e = .returned (.pointer (some ⟨w.heap.size, 0, none⟩)) ∧ w' = w.alloc (.cells #[.map none, .map none, .map none] 59) := by
  go_enter Try.func10, Try.ntmps10
  go_wp2
  go_ret
  exact ⟨rfl, rfl⟩
/-- A batch of one record. -/
def ob (base : Int) (v : ByteArray) : Ba := ⟨base, 1, 0, 0, [⟨false, ⟨#[]⟩, true, v, 0, 0⟩]⟩
def OneP (w : World) (base : Int) (v : ByteArray) (e : Ending) (w' : World) : Prop :=
  ∃ g, e = .returned (.agg #[.int .i64 base, .int .i64 1, .int .i64 0, .int .i64 0, .slice (some ⟨g, 0, none⟩) 1 1]) ∧ RRow w' (some ⟨g, 0, none⟩) [⟨false, ⟨#[]⟩, true, v, 0, 0⟩] ∧ Below w.heap.size w w'
theorem rrow_new (w : World) (r : Rc) : RRow (w.alloc (.cells r.cells 48)) (some ⟨w.heap.size, 0, none⟩) [r] := by
  have hc : ∀ j, (w.alloc (.cells r.cells 48)).cell? ⟨w.heap.size, j, none⟩ = r.cells[j]? := fun j => cell_of_row _ w.heap.size j r.cells 48 (0, 0) (heap_alloc_new w _)
  intro i hi
  obtain rfl : i = 0 := by simpa using hi
  exact ⟨w.heap.size, 0, rfl, hc 0, hc 1, hc 2, hc 3, hc 4, hc 5⟩
set_option maxRecDepth 100000 in
theorem one_any (base : Int) (v : ByteArray) (w : World) : Calls Try.prog 22 #[.int .i64 base, .string v] w fun e w' => OneP w base v e w' := by
  go_enter Try.func22, Try.ntmps22
  go_wp2
  refine bodyPost_ret (v := .agg #[.int .i64 base, .int .i64 1, .int .i64 0, .int .i64 0, .slice (some ⟨w.heap.size + 1, 0, none⟩) 1 1]) (by simp [results, Try.results22, go_sem]) rfl ⟨w.heap.size + 1, rfl, ?_, (below_box _).trans ((below_box _).mono (by simp))⟩
  have := rrow_new (w.alloc (.cells #[.int .i64 base, .int .i64 1, .int .i64 0, .int .i64 0, .slice (some ⟨w.heap.size + 1, 0, none⟩) 1 1] 61)) ⟨false, ⟨#[]⟩, true, v, 0, 0⟩
  rw [show (w.alloc (.cells #[.int .i64 base, .int .i64 1, .int .i64 0, .int .i64 0, .slice (some ⟨w.heap.size + 1, 0, none⟩) 1 1] 61)).heap.size = w.heap.size + 1 by simp] at this
  exact this
theorem bcells_new (w : World) (ss : List Bs) : BCells (w.alloc (.cells (bcv ss).toArray 61)) (some ⟨w.heap.size, 0, none⟩) ss := by
  have hc : ∀ j, (w.alloc (.cells (bcv ss).toArray 61)).cell? ⟨w.heap.size, j, none⟩ = (bcv ss)[j]? := fun j => by
    rw [cell_of_row _ w.heap.size j (bcv ss).toArray 61 (0, 0) (heap_alloc_new w _)]
    simp
  intro i hi
  refine ⟨w.heap.size, 0, rfl, ?_, ?_, ?_, ?_, ?_⟩
  · rw [Nat.zero_add, hc]; exact bcv_get ss i 0 hi (by decide)
  · rw [Nat.zero_add, hc]; exact bcv_get ss i 1 hi (by decide)
  · rw [Nat.zero_add, hc]; exact bcv_get ss i 2 hi (by decide)
  · rw [Nat.zero_add, hc]; exact bcv_get ss i 3 hi (by decide)
  · rw [Nat.zero_add, hc]; exact bcv_get ss i 4 hi (by decide)
theorem BIn.new (w : World) (ss : List Bs) (hr : ∀ i, i < ss.length → RRow w (ss.getD i bsz).a (ss.getD i bsz).b.rs ∧ (ss.getD i bsz).b.rs.length ≤ maxLen) (ho : ∀ i, i < ss.length → BOk (ss.getD i bsz).b) (hl : ss.length ≤ maxLen) : BIn (w.alloc (.cells (bcv ss).toArray 61)) (some ⟨w.heap.size, 0, none⟩) ss :=
  ⟨bcells_new w ss, fun i hi => ⟨(hr i hi).1.below (below_box _), (hr i hi).2⟩, ho, hl⟩
theorem i0 : In64 0 := ⟨by decide, by decide⟩
theorem i1 : In64 1 := ⟨by decide, by decide⟩
theorem i2 : In64 2 := ⟨by decide, by decide⟩
theorem ob_ok (b : Int) (v : ByteArray) (h0 : 0 ≤ b) (h1 : b ≤ 1125899906842624) (hv : v.size ≤ 20000) : BOk (ob b v) := ⟨⟨by show _ ≤ b; omega, by show b < _; omega⟩, i1, fun r hr => by
  simp only [ob, List.mem_singleton] at hr
  subst hr
  exact ⟨i0, (by show (⟨#[]⟩ : ByteArray).size ≤ 281474976710656; decide), Nat.le_trans hv (by decide)⟩⟩
/-- A Log that the call itself has made, and what it knows. -/
def AwK (B : Nat) (w0 : World) (p : Nat) (S : LS) (y : World) : Prop := ∃ v1 v2 v3, LogIs y p v1 v2 v3 S ∧ (∀ b, b ∈ logE p v1 v2 v3 → B ≤ b) ∧ Below B w0 y ∧ B ≤ y.heap.size
theorem AwK.below {B : Nat} {w0 y z : World} {p : Nat} {S : LS} (h : AwK B w0 p S y) (hb : Below y.heap.size y z) : AwK B w0 p S z := by
  obtain ⟨v1, v2, v3, h1, h2, h3, h4⟩ := h
  exact ⟨v1, v2, v3, h1.below hb, h2, h3.trans (hb.mono h4), Nat.le_trans h4 hb.size⟩
theorem AwK.zero {B : Nat} {w0 w : World} (hb : Below B w0 w) (hB : B ≤ w.heap.size) : AwK B w0 w.heap.size ls0 (w.alloc (.cells #[.map none, .map none, .map none] 59)) :=
  ⟨none, none, none, LogIs.zero w, fun b hb' => (by
    rcases mem_logE.1 hb' with rfl | e | e | e
    · exact hB
    · cases e
    · cases e
    · cases e), hb.trans ((below_box _).mono hB), (by simp; omega)⟩
theorem AwK.saw {B : Nat} {w0 y : World} {p : Nat} {S : LS} (h : AwK B w0 p S y) (tp : ByteArray) (pt st nx fr : Int) (a : Option Addr) (cap : Nat) (ss : List Bs) (hi : BIn y a ss) (ht : tp.size ≤ 281474976710656) (hN : In64 fr ∧ In64 st ∧ In64 nx) :
    Calls Try.prog 11 #[.pointer (some ⟨p, 0, none⟩), .string tp, .int .i64 pt, .int .i64 st, .int .i64 nx, .int .i64 fr, .slice a ss.length cap] y fun e z => e = .returned (.int .i64 (saw S (tp, pt) st nx fr (bsOf ss)).1) ∧ AwK B w0 p (saw S (tp, pt) st nx fr (bsOf ss)).2 z := by
  obtain ⟨v1, v2, v3, h1, h2, h3, h4⟩ := h
  refine (saw_any p v1 v2 v3 S tp pt st nx fr a cap ss y h1 hi ht hN).mono fun e z ⟨u1, u2, u3, e1, e2, e3, e4⟩ => ⟨e1, u1, u2, u3, e2, fun b hb => ?_, ?_, ?_⟩
  · rcases e4 b hb with q | q
    · exact h2 b q
    · exact Nat.le_trans h4 q
  · exact h3.trans (e3.below h2 h4)
  · exact Nat.le_trans h4 e3.size
theorem BIn.nil (w : World) (a : Option Addr) : BIn w a [] := ⟨fun i hi => by simp at hi, fun i hi => by simp at hi, fun i hi => by simp at hi, by unfold maxLen; simp⟩
theorem one_max : 1 ≤ maxLen := by unfold maxLen; decide
theorem two_max : 2 ≤ maxLen := by unfold maxLen; decide
/-- What one batch of two, and one of one, lie in. -/
theorem BIn.two (w : World) (b1 b2 : Int) (x1 x2 : ByteArray) (g1 g2 : Nat) (h1 : RRow w (some ⟨g1, 0, none⟩) (ob b1 x1).rs) (h2 : RRow w (some ⟨g2, 0, none⟩) (ob b2 x2).rs) (o1 : BOk (ob b1 x1)) (o2 : BOk (ob b2 x2)) :
    BIn (w.alloc (.cells #[.int .i64 b1, .int .i64 1, .int .i64 0, .int .i64 0, .slice (some ⟨g1, 0, none⟩) 1 1, .int .i64 b2, .int .i64 1, .int .i64 0, .int .i64 0, .slice (some ⟨g2, 0, none⟩) 1 1] 61)) (some ⟨w.heap.size, 0, none⟩) [⟨ob b1 x1, some ⟨g1, 0, none⟩, 1⟩, ⟨ob b2 x2, some ⟨g2, 0, none⟩, 1⟩] :=
  BIn.new w [⟨ob b1 x1, some ⟨g1, 0, none⟩, 1⟩, ⟨ob b2 x2, some ⟨g2, 0, none⟩, 1⟩] (fun i hi => (by
    match i, hi with
    | 0, _ => exact ⟨h1, one_max⟩
    | 1, _ => exact ⟨h2, one_max⟩)) (fun i hi => (by
    match i, hi with
    | 0, _ => exact o1
    | 1, _ => exact o2)) two_max
theorem BIn.one (w : World) (b1 : Int) (x1 : ByteArray) (g1 : Nat) (h1 : RRow w (some ⟨g1, 0, none⟩) (ob b1 x1).rs) (o1 : BOk (ob b1 x1)) :
    BIn (w.alloc (.cells #[.int .i64 b1, .int .i64 1, .int .i64 0, .int .i64 0, .slice (some ⟨g1, 0, none⟩) 1 1] 61)) (some ⟨w.heap.size, 0, none⟩) [⟨ob b1 x1, some ⟨g1, 0, none⟩, 1⟩] :=
  BIn.new w [⟨ob b1 x1, some ⟨g1, 0, none⟩, 1⟩] (fun i hi => (by
    match i, hi with
    | 0, _ => exact ⟨h1, one_max⟩)) (fun i hi => (by
    match i, hi with
    | 0, _ => exact o1)) one_max
def sa : ByteArray := ⟨#[97]⟩
def sx : ByteArray := ⟨#[120]⟩
def sy : ByteArray := ⟨#[121]⟩
def sz : ByteArray := ⟨#[122]⟩
def aw1 : LS := (saw ls0 (sa, 0) 0 2 0 [ob 0 sx, ob 1 sy]).2
def aw2 : LS := (saw aw1 (sa, 0) 0 1 0 []).2
def aw3 : LS := (saw aw2 (sa, 0) 0 2 0 [ob 1 sy, ob 0 sx]).2
theorem aw_1 : (saw ls0 (sa, 0) 0 2 0 [ob 0 sx, ob 1 sy]).1 = 0 := by decide +kernel
theorem aw_2 : (saw aw1 (sa, 0) 0 1 0 []).1 = 1 := by decide +kernel
theorem aw_3 : (saw aw2 (sa, 0) 0 2 0 [ob 1 sy, ob 0 sx]).1 = 2 := by decide +kernel
theorem aw_4 : (saw aw3 (sa, 0) 0 2 0 [ob 0 sz]).1 = 3 := by decide +kernel
set_option maxHeartbeats 1600000 in
set_option maxRecDepth 100000 in
theorem awake_any (w : World) : Calls Try.prog 9 #[] w fun e w' => e = .returned (.bool true) ∧ Below w.heap.size w w' := by
  have HK0 : Hid (AwK w.heap.size w w.heap.size ls0 (w.alloc (.cells #[.map none, .map none, .map none] 59))) := AwK.zero (Below.refl _ _) (Nat.le_refl _)
  have HC1 : Hid (∀ (y : World) (g1 g2 : Nat), AwK w.heap.size w w.heap.size ls0 y → RRow y (some ⟨g1, 0, none⟩) (ob 0 sx).rs → RRow y (some ⟨g2, 0, none⟩) (ob 1 sy).rs → Calls Try.prog 11 #[.pointer (some ⟨w.heap.size, 0, none⟩), .string ⟨#[97]⟩, .int .i64 0, .int .i64 0, .int .i64 2, .int .i64 0, .slice (some ⟨y.heap.size, 0, none⟩) 2 2] (y.alloc (.cells #[.int .i64 0, .int .i64 1, .int .i64 0, .int .i64 0, .slice (some ⟨g1, 0, none⟩) 1 1, .int .i64 1, .int .i64 1, .int .i64 0, .int .i64 0, .slice (some ⟨g2, 0, none⟩) 1 1] 61)) fun e z => e = .returned (.int .i64 0) ∧ AwK w.heap.size w w.heap.size aw1 z) := fun y g1 g2 h h1 h2 => by
    have := (h.below (below_box _)).saw sa 0 0 2 0 _ 2 _ (BIn.two y 0 1 sx sy g1 g2 h1 h2 (ob_ok _ _ (by decide) (by decide) (by decide)) (ob_ok _ _ (by decide) (by decide) (by decide))) (by decide) ⟨i0, i0, i2⟩
    rw [show (saw ls0 (sa, 0) 0 2 0 (bsOf [⟨ob 0 sx, some ⟨g1, 0, none⟩, 1⟩, ⟨ob 1 sy, some ⟨g2, 0, none⟩, 1⟩])) = (0, aw1) from Prod.ext aw_1 rfl] at this
    exact this
  have HC2 : Hid (∀ (y : World) (g1 g2 : Nat), AwK w.heap.size w w.heap.size aw1 y → Calls Try.prog 11 #[.pointer (some ⟨w.heap.size, 0, none⟩), .string ⟨#[97]⟩, .int .i64 0, .int .i64 0, .int .i64 1, .int .i64 0, .slice none 0 0] y fun e z => e = .returned (.int .i64 1) ∧ AwK w.heap.size w w.heap.size aw2 z) := fun y g1 g2 h => by
    have := h.saw sa 0 0 1 0 none 0 [] (BIn.nil _ _) (by decide) ⟨i0, i0, i1⟩
    rw [show (saw aw1 (sa, 0) 0 1 0 (bsOf [])) = (1, aw2) from Prod.ext aw_2 rfl] at this
    exact this
  have HC3 : Hid (∀ (y : World) (g1 g2 : Nat), AwK w.heap.size w w.heap.size aw2 y → RRow y (some ⟨g1, 0, none⟩) (ob 1 sy).rs → RRow y (some ⟨g2, 0, none⟩) (ob 0 sx).rs → Calls Try.prog 11 #[.pointer (some ⟨w.heap.size, 0, none⟩), .string ⟨#[97]⟩, .int .i64 0, .int .i64 0, .int .i64 2, .int .i64 0, .slice (some ⟨y.heap.size, 0, none⟩) 2 2] (y.alloc (.cells #[.int .i64 1, .int .i64 1, .int .i64 0, .int .i64 0, .slice (some ⟨g1, 0, none⟩) 1 1, .int .i64 0, .int .i64 1, .int .i64 0, .int .i64 0, .slice (some ⟨g2, 0, none⟩) 1 1] 61)) fun e z => e = .returned (.int .i64 2) ∧ AwK w.heap.size w w.heap.size aw3 z) := fun y g1 g2 h h1 h2 => by
    have := (h.below (below_box _)).saw sa 0 0 2 0 _ 2 _ (BIn.two y 1 0 sy sx g1 g2 h1 h2 (ob_ok _ _ (by decide) (by decide) (by decide)) (ob_ok _ _ (by decide) (by decide) (by decide))) (by decide) ⟨i0, i0, i2⟩
    rw [show (saw aw2 (sa, 0) 0 2 0 (bsOf [⟨ob 1 sy, some ⟨g1, 0, none⟩, 1⟩, ⟨ob 0 sx, some ⟨g2, 0, none⟩, 1⟩])) = (2, aw3) from Prod.ext aw_3 rfl] at this
    exact this
  have HC4 : Hid (∀ (y : World) (g1 : Nat), AwK w.heap.size w w.heap.size aw3 y → RRow y (some ⟨g1, 0, none⟩) (ob 0 sz).rs → Calls Try.prog 11 #[.pointer (some ⟨w.heap.size, 0, none⟩), .string ⟨#[97]⟩, .int .i64 0, .int .i64 0, .int .i64 2, .int .i64 0, .slice (some ⟨y.heap.size, 0, none⟩) 1 1] (y.alloc (.cells #[.int .i64 0, .int .i64 1, .int .i64 0, .int .i64 0, .slice (some ⟨g1, 0, none⟩) 1 1] 61)) fun e z => e = .returned (.int .i64 3) ∧ Below w.heap.size w z) := fun y g1 h h1 => by
    have := (h.below (below_box _)).saw sa 0 0 2 0 _ 1 _ (BIn.one y 0 sz g1 h1 (ob_ok _ _ (by decide) (by decide) (by decide))) (by decide) ⟨i0, i0, i2⟩
    refine this.mono fun e z ⟨e1, v1, v2, v3, _, _, e2, _⟩ => ⟨?_, e2⟩
    rw [e1]
    exact congrArg (fun x => Ending.returned (.int .i64 x)) aw_4
  have tokA : True := trivial
  have tokB : True := trivial
  have tokC : True := trivial
  have tokD : True := trivial
  have tokE : True := trivial
  have tokF : True := trivial
  have tokG : True := trivial
  go_enter Try.func9, Try.ntmps9
  go_wp2_with (first
    | (go_at_call 10; refine (new_any _).mono ?_; rintro e y0 ⟨rfl, hw⟩; subst hw; have hK := HK0.out)
    | (have _t := tokA; go_at_call 22; refine (one_any _ _ _).mono ?_; rintro e y1 ⟨g1, rfl, hr1, hb1⟩; replace hK := hK.below hb1; clear _t tokA)
    | (have _t := tokB; go_at_call 22; refine (one_any _ _ _).mono ?_; rintro e y2 ⟨g2, rfl, hr2, hb2⟩; replace hK := hK.below hb2; replace hr1 := hr1.below hb2; clear _t tokB)
    | (have _t := tokC; go_at_call 11; refine (HC1.out _ _ _ hK hr1 hr2).mono ?_; rintro e y3 ⟨rfl, hK3⟩; clear _t tokC hK hr1 hr2 hb1 hb2)
    | (have _t := tokD; go_at_call 11; refine (HC2.out _ 0 0 hK3).mono ?_; rintro e y4 ⟨rfl, hK4⟩; clear _t tokD hK3)
    | (have _t := tokE; go_at_call 22; refine (one_any _ _ _).mono ?_; rintro e y5 ⟨g5, rfl, hr5, hb5⟩; replace hK4 := hK4.below hb5; clear _t tokE)
    | (have _t := tokF; go_at_call 22; refine (one_any _ _ _).mono ?_; rintro e y6 ⟨g6, rfl, hr6, hb6⟩; replace hK4 := hK4.below hb6; replace hr5 := hr5.below hb6; clear _t tokF)
    | (have _t := tokG; go_at_call 11; refine (HC3.out _ _ _ hK4 hr5 hr6).mono ?_; rintro e y7 ⟨rfl, hK7⟩; clear _t tokG hK4 hr5 hr6 hb5 hb6)
    | (go_at_call 22; refine (one_any _ _ _).mono ?_; rintro e y8 ⟨g8, rfl, hr8, hb8⟩; replace hK7 := hK7.below hb8)
    | (go_at_call 11; refine (HC4.out _ _ hK7 hr8).mono ?_; rintro e y9 ⟨rfl, hbZ⟩))
  go_ret
  exact ⟨rfl, hbZ⟩
end Go.Proofs.Ytnnljdnaipjoiaa
