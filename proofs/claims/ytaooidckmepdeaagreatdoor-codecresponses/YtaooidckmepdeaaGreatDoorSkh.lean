/- Ky Er Ea Rs Rb Pa Pg Pc Kz Aw Ax Qb Sq Pw Ss Pr -/
import Derived.Test.YtaooidckmepdeaaGreatDoorSkg
import Derived.Lib.AppendStr
import Derived.Deep.CutRange
import Derived.Laws.StructEq
namespace Go.Proofs.YtaooidckmepdeaaGreatDoor
set_option linter.unusedSimpArgs false
set_option linter.unusedVariables false
open Go.RowKit
theorem results_26 {fn : Func} {p u : Tmp} (h : fn.results = #[.cell p 28, .tmp u]) (tmps : Array Value) (w : World) (g : Nat) (cs : Array Value) (v : Value) (hp : tmps.getD p undef = .pointer (some ⟨g, 0, none⟩)) (hv : tmps.getD u undef = v) (hi : cs.size = 17) (hg : w.heap[g]? = some (.cells cs 28 (0, 0))) :
    (results fn tmps).run Tryz.prog w = .ok (.tuple #[.agg cs, v]) w := by
  have h2 := run_loadVar_row (P := Tryz.prog) w g 28 28 cs (0, 0) _ hg Tryz.underlying28 rfl (by rw [hi]; exact Tryz.info28)
  subst hv
  rw [results_cell_tmp h, hp]
  simp [asAddr, h2, Result.andThen]
theorem rrow_off {w : World} {R : Nat} {cs : Array Value} {t : TypeId} {a : Option Addr} {rs : List Rc} (hR : w.heap[R]? = some (.cells cs t (0, 0))) (hc : ∀ (j : Nat) (v : Bool) (u : ByteArray), cs[j]? = some (.bool v) → cs[j + 1]? = some (.string u) → False) (hr : RRow w a rs) : ∀ i, i < rs.length → ∀ bb off, a = some ⟨bb, off, none⟩ → bb ≠ R := by
  intro i hi bb off e
  rintro rfl
  obtain ⟨b', off', e', h0, h1, _⟩ := hr i hi
  rw [e] at e'
  simp only [Option.some.injEq, Addr.mk.injEq, and_true] at e'
  obtain ⟨rfl, rfl⟩ := e'
  rw [(box_at hR _).1] at h0 h1
  exact hc _ _ _ h0 h1
theorem BdX.off {w : World} {X R : Nat} {b : Bd} {p : Pt} {cs c2 : Array Value} {t : TypeId} (h : BdX w X b p) (hR : w.heap[R]? = some (.cells cs t (0, 0))) (hc : ∀ (j : Nat) (v : Bool) (u : ByteArray), cs[j]? = some (.bool v) → cs[j + 1]? = some (.string u) → False) (hX : R < X) : BdX (w.setRow R c2) X b p := by
  have hs : ∀ k, k ≠ R → (w.setRow R c2).heap[k]? = w.heap[k]? := fun k hk => setRow_other w R k c2 hk
  refine ⟨(hs X (by omega)).trans h.box, rrow_keep h.rs (fun j hj bb off e => hs bb (rrow_off hR hc h.rs j hj bb off e)), srow_keep h.nm (fun j hj bb off e => hs bb ?_), irow_keep h.ct (fun j hj bb off e => hs bb ?_), ⟨bcells_keep h.bs.1 (fun j hj bb off e => hs bb ?_), fun j hj => ⟨rrow_keep (h.bs.2 j hj).1 (fun j' hj' bb off e => hs bb (rrow_off hR hc (h.bs.2 j hj).1 j' hj' bb off e)), (h.bs.2 j hj).2⟩⟩, h.bb, h.n1, h.o1, h.o2, h.o3, h.o4⟩
  · have := h.o2 _ e; simp at this; omega
  · have := h.o3 _ e; simp at this; omega
  · have := h.o4 _ e; simp at this; omega
def z26 : Array Value := #[.int .i64 0, .int .i64 0, .string ⟨#[]⟩, .int .i64 0, .int .i64 0, .int .i64 0, .int .i64 0, .int .i64 0, .bool false, .int .i64 0, .int .i64 0, .int .i64 0, .slice none 0 0, .int .i64 0, .int .i64 0, .int .i64 0, .string ⟨#[]⟩]
theorem z26_no : ∀ (j : Nat) (v : Bool) (u : ByteArray), z26[j]? = some (.bool v) → z26[j + 1]? = some (.string u) → False := by
  intro j v u h1 h2
  have hj : j < 17 := by have := (Array.getElem?_eq_some_iff.1 h1).1; simpa [z26] using this
  unfold z26 at h1 h2
  rcases j with _ | _ | _ | _ | _ | _ | _ | _ | _ | _ | _ | _ | _ | _ | _ | _ | _ | j <;> simp at h1 h2
theorem RdR.new (y : World) (a : Option Addr) (cap : Nat) (l : List Nat) (hr : Row y a l) (hl : l.length ≤ cap) (hc : cap ≤ maxLen) (hn : a = none → cap = 0) (hbig : l.length ≤ 1000000000000) : RdR y (y.alloc (.cells #[.slice a l.length cap, .bool false] 54)) (some l) :=
  ⟨⟨a, cap, heap_alloc_new y _, hr, hl, hc, hn, hbig⟩, below_box _⟩
/-- A new box of what is told. -/
theorem box_new (w : World) (Z CS : Array Value) (t : TypeId) : ((w.alloc (.cells Z t)).setRow w.heap.size CS).heap[w.heap.size]? = some (.cells CS t (0, 0)) ∧ Below w.heap.size w ((w.alloc (.cells Z t)).setRow w.heap.size CS) :=
  ⟨setRow_heap _ _ _ _ _ _ (heap_alloc_new w _), below_setRow (below_box _) (Nat.le_refl _) _⟩
set_option maxRecDepth 100000 in
set_option maxHeartbeats 400000 in
theorem parseQ_in (w : World) (a : Option Addr) (cap : Nat) (l : List Nat) (k i : Int) (T : Option (List Nat)) (n : Nat) (ok done : Bool) (s1 s2 s3 : Ls) (B : Bd) (P : Ending → World → Prop)
    (HS : Hid (RdR (w.alloc (.cells #[.int .i64 0, .int .i64 0, .string ⟨#[]⟩, .int .i64 0, .int .i64 0, .int .i64 0, .int .i64 0, .int .i64 0, .bool false, .int .i64 0, .int .i64 0, .int .i64 0, .slice none 0 0, .int .i64 0, .int .i64 0, .int .i64 0, .string ⟨#[]⟩] 28)) ((w.alloc (.cells #[.int .i64 0, .int .i64 0, .string ⟨#[]⟩, .int .i64 0, .int .i64 0, .int .i64 0, .int .i64 0, .int .i64 0, .bool false, .int .i64 0, .int .i64 0, .int .i64 0, .slice none 0 0, .int .i64 0, .int .i64 0, .int .i64 0, .string ⟨#[]⟩] 28)).alloc (.cells #[.slice a l.length cap, .bool false] 54)) (some l)))
    (HI : Hid (T.isSome = ok ∧ (rowOr T).length = n))
    (H1 : Hid (∀ x, RdR (w.alloc (.cells #[.int .i64 0, .int .i64 0, .string ⟨#[]⟩, .int .i64 0, .int .i64 0, .int .i64 0, .int .i64 0, .int .i64 0, .bool false, .int .i64 0, .int .i64 0, .int .i64 0, .slice none 0 0, .int .i64 0, .int .i64 0, .int .i64 0, .string ⟨#[]⟩] 28)) x (some l) → Calls Tryz.prog 17 #[(.pointer (some ⟨w.heap.size + 1, 0, none⟩)), .int .i64 1] x (RP (w.alloc (.cells #[.int .i64 0, .int .i64 0, .string ⟨#[]⟩, .int .i64 0, .int .i64 0, .int .i64 0, .int .i64 0, .int .i64 0, .bool false, .int .i64 0, .int .i64 0, .int .i64 0, .slice none 0 0, .int .i64 0, .int .i64 0, .int .i64 0, .string ⟨#[]⟩] 28)) x (.int .i64 k) s1)))
    (H2 : Hid (∀ x, RdR (w.alloc (.cells #[.int .i64 0, .int .i64 0, .string ⟨#[]⟩, .int .i64 0, .int .i64 0, .int .i64 0, .int .i64 0, .int .i64 0, .bool false, .int .i64 0, .int .i64 0, .int .i64 0, .slice none 0 0, .int .i64 0, .int .i64 0, .int .i64 0, .string ⟨#[]⟩] 28)) x s1 → Calls Tryz.prog 17 #[(.pointer (some ⟨w.heap.size + 1, 0, none⟩)), .int .i64 4] x (RP (w.alloc (.cells #[.int .i64 0, .int .i64 0, .string ⟨#[]⟩, .int .i64 0, .int .i64 0, .int .i64 0, .int .i64 0, .int .i64 0, .bool false, .int .i64 0, .int .i64 0, .int .i64 0, .slice none 0 0, .int .i64 0, .int .i64 0, .int .i64 0, .string ⟨#[]⟩] 28)) x (.int .i64 i) s2)))
    (HR : Hid (∀ x, Calls Tryz.prog 18 #[.int .i64 0, .int .i64 k] x (RowP T x)))
    (HF : Hid (∀ x a c, RdR (w.alloc (.cells #[.int .i64 0, .int .i64 0, .string ⟨#[]⟩, .int .i64 0, .int .i64 0, .int .i64 0, .int .i64 0, .int .i64 0, .bool false, .int .i64 0, .int .i64 0, .int .i64 0, .slice none 0 0, .int .i64 0, .int .i64 0, .int .i64 0, .string ⟨#[]⟩] 28)) x s2 → FRow x a (rowOr T) → Calls Tryz.prog 19 #[(.pointer (some ⟨w.heap.size + 1, 0, none⟩)), .slice a n c] x (FsP (w.alloc (.cells #[.int .i64 0, .int .i64 0, .string ⟨#[]⟩, .int .i64 0, .int .i64 0, .int .i64 0, .int .i64 0, .int .i64 0, .bool false, .int .i64 0, .int .i64 0, .int .i64 0, .slice none 0 0, .int .i64 0, .int .i64 0, .int .i64 0, .string ⟨#[]⟩] 28)) x B s3)))
    (HE : Hid (∀ x, RdR (w.alloc (.cells #[.int .i64 0, .int .i64 0, .string ⟨#[]⟩, .int .i64 0, .int .i64 0, .int .i64 0, .int .i64 0, .int .i64 0, .bool false, .int .i64 0, .int .i64 0, .int .i64 0, .slice none 0 0, .int .i64 0, .int .i64 0, .int .i64 0, .string ⟨#[]⟩] 28)) x s3 → Calls Tryz.prog 20 #[(.pointer (some ⟨w.heap.size + 1, 0, none⟩))] x fun e w' => e = .returned (.bool done) ∧ w' = x))
    (HP0 : Hid ((ok && done) = false → ∀ w', Below w.heap.size w w' → P (.returned (.tuple #[.agg #[.int .i64 0, .int .i64 0, .string ⟨#[]⟩, .int .i64 0, .int .i64 0, .int .i64 0, .int .i64 0, .int .i64 0, .bool false, .int .i64 0, .int .i64 0, .int .i64 0, .slice none 0 0, .int .i64 0, .int .i64 0, .int .i64 0, .string ⟨#[]⟩], .int .i64 13])) w'))
    (HP1 : Hid ((ok && done) = true → ∀ p X w', w.heap.size + 1 < X → BdX w' X B p → Below w.heap.size w w' → P (.returned (.tuple #[.agg (rqc k i B ((B 7).n == 1) p.ra p.rc), .int .i64 0])) w')) :
    Calls Tryz.prog 6 #[.slice a l.length cap] w P := by
  have HYS : Hid ((w.alloc (.cells #[.int .i64 0, .int .i64 0, .string ⟨#[]⟩, .int .i64 0, .int .i64 0, .int .i64 0, .int .i64 0, .int .i64 0, .bool false, .int .i64 0, .int .i64 0, .int .i64 0, .slice none 0 0, .int .i64 0, .int .i64 0, .int .i64 0, .string ⟨#[]⟩] 28)).heap.size = w.heap.size + 1) := by show _ = _; simp
  have HYB : Hid (Below w.heap.size w (w.alloc (.cells #[.int .i64 0, .int .i64 0, .string ⟨#[]⟩, .int .i64 0, .int .i64 0, .int .i64 0, .int .i64 0, .int .i64 0, .bool false, .int .i64 0, .int .i64 0, .int .i64 0, .slice none 0 0, .int .i64 0, .int .i64 0, .int .i64 0, .string ⟨#[]⟩] 28))) := below_box _
  have HRZ : Hid (∀ x st, RdR (w.alloc (.cells #[.int .i64 0, .int .i64 0, .string ⟨#[]⟩, .int .i64 0, .int .i64 0, .int .i64 0, .int .i64 0, .int .i64 0, .bool false, .int .i64 0, .int .i64 0, .int .i64 0, .slice none 0 0, .int .i64 0, .int .i64 0, .int .i64 0, .string ⟨#[]⟩] 28)) x st → x.heap[w.heap.size]? = some (.cells #[.int .i64 0, .int .i64 0, .string ⟨#[]⟩, .int .i64 0, .int .i64 0, .int .i64 0, .int .i64 0, .int .i64 0, .bool false, .int .i64 0, .int .i64 0, .int .i64 0, .slice none 0 0, .int .i64 0, .int .i64 0, .int .i64 0, .string ⟨#[]⟩] 28 (0, 0)) ∧ Below w.heap.size w x) := fun x st h => ⟨(h.bel.block w.heap.size (by simp)).trans (heap_alloc_new w _), HYB.out.trans (h.bel.mono (by simp))⟩
  have HPQ : Hid (∀ b p x, Calls Tryz.prog 21 #[.agg (bdc b p)] x fun e w' => e = .returned (.agg (rqc 0 0 b ((b 7).n == 1) p.ra p.rc)) ∧ Below x.heap.size x w') := fun b p x => request_of b p x
  have tok1 : True := trivial
  cases ok
  · go_enter Tryz.func6, Tryz.ntmps6
    go_wp2_with (first | (have _h := tok1; go_at_call 17; refine (H1.out _ HS.out).mono ?_; rintro e w2 ⟨rfl, hw2, hk2⟩; have HW2 : Hid (RdR (w.alloc (.cells #[.int .i64 0, .int .i64 0, .string ⟨#[]⟩, .int .i64 0, .int .i64 0, .int .i64 0, .int .i64 0, .int .i64 0, .bool false, .int .i64 0, .int .i64 0, .int .i64 0, .slice none 0 0, .int .i64 0, .int .i64 0, .int .i64 0, .string ⟨#[]⟩] 28)) w2 s1) := hw2; have tok2 : True := trivial; clear hw2 hk2 _h tok1) | (have _h := tok2; go_at_call 17; refine (H2.out _ HW2.out).mono ?_; rintro e w3 ⟨rfl, hw3, hk3⟩; have HW3 : Hid (RdR (w.alloc (.cells #[.int .i64 0, .int .i64 0, .string ⟨#[]⟩, .int .i64 0, .int .i64 0, .int .i64 0, .int .i64 0, .int .i64 0, .bool false, .int .i64 0, .int .i64 0, .int .i64 0, .slice none 0 0, .int .i64 0, .int .i64 0, .int .i64 0, .string ⟨#[]⟩] 28)) w3 s2) := hw3; clear hw3 hk3 _h tok2) | (go_at_call 18; refine (HR.out _).mono ?_; rintro e w4 ⟨⟨a1, c1, rfl, hf1⟩, hb1⟩; rw [HI.out.1, HI.out.2]; have HW4 : Hid (RdR (w.alloc (.cells #[.int .i64 0, .int .i64 0, .string ⟨#[]⟩, .int .i64 0, .int .i64 0, .int .i64 0, .int .i64 0, .int .i64 0, .bool false, .int .i64 0, .int .i64 0, .int .i64 0, .slice none 0 0, .int .i64 0, .int .i64 0, .int .i64 0, .string ⟨#[]⟩] 28)) w4 s2) := RdR.below HW3.out hb1; have HFR : Hid (FRow w4 a1 (rowOr T)) := hf1; clear hf1 hb1) | (go_at_call 19; refine (HF.out _ _ _ HW4.out HFR.out).mono ?_; rintro e w5 ⟨p, X, hX, rfl, hx5, hw5, hk5⟩; have HX5 : Hid (BdX w5 X B p) := hx5; have HW5 : Hid (RdR (w.alloc (.cells #[.int .i64 0, .int .i64 0, .string ⟨#[]⟩, .int .i64 0, .int .i64 0, .int .i64 0, .int .i64 0, .int .i64 0, .bool false, .int .i64 0, .int .i64 0, .int .i64 0, .slice none 0 0, .int .i64 0, .int .i64 0, .int .i64 0, .string ⟨#[]⟩] 28)) w5 s3) := hw5; have HXX : Hid (w4.heap.size ≤ X) := hX; have HZ : Hid ((bdc B p).size = 44) := bdc_size _ _; have HONE : Hid ((bdc B p).all (·.oneCell') = true) := all_one; have HPQ2 : Hid _ := HPQ.out B p; obtain ⟨CS, HCS⟩ : ∃ CS, Hid (bdc B p = CS) := ⟨_, rfl⟩; rw [HCS.out] at HZ HONE HPQ2 ⊢; have tok5 : True := trivial; clear hx5 hw5 hX hk5) | (have _h := tok5; refine wpList_store_row rfl 63 _ _ rfl w5.heap.size CS rfl rfl 63 (List.toArray (Value.int .i64 0 :: Value.int .i64 0 :: Value.int .i64 0 :: Value.int .i64 0 :: Value.int .i64 0 :: Value.int .i64 0 :: Value.int .i64 0 :: Value.int .i64 0 :: Value.int .i64 0 :: Value.int .i64 0 :: Value.int .i64 0 :: Value.int .i64 0 :: Value.int .i64 0 :: Value.int .i64 0 :: Value.int .i64 0 :: Value.int .i64 0 :: Value.int .i64 0 :: Value.int .i64 0 :: Value.int .i64 0 :: Value.int .i64 0 :: Value.string ⟨#[]⟩ :: Value.string ⟨#[]⟩ :: Value.string ⟨#[]⟩ :: Value.string ⟨#[]⟩ :: Value.string ⟨#[]⟩ :: Value.string ⟨#[]⟩ :: Value.string ⟨#[]⟩ :: Value.string ⟨#[]⟩ :: Value.string ⟨#[]⟩ :: Value.string ⟨#[]⟩ :: Value.string ⟨#[]⟩ :: Value.string ⟨#[]⟩ :: Value.string ⟨#[]⟩ :: Value.string ⟨#[]⟩ :: Value.string ⟨#[]⟩ :: Value.string ⟨#[]⟩ :: Value.string ⟨#[]⟩ :: Value.string ⟨#[]⟩ :: Value.string ⟨#[]⟩ :: Value.string ⟨#[]⟩ :: Value.slice none 0 0 :: Value.slice none 0 0 :: Value.slice none 0 0 :: Value.slice none 0 0 :: [])) (heap_alloc_new w5 _) (by rw [HZ.out]; exact Tryz.info63) (by rw [HZ.out]; rfl) HONE.out ?_; obtain ⟨hb6, hl6⟩ := box_new w5 _ CS 63; generalize World.setRow _ w5.heap.size CS = w6 at *; have HB6 : Hid (w6.heap[w5.heap.size]? = some (.cells CS 63 (0, 0))) := hb6; have HL6 : Hid (Below w5.heap.size w5 w6) := hl6; have HW6 : Hid (RdR (w.alloc (.cells #[.int .i64 0, .int .i64 0, .string ⟨#[]⟩, .int .i64 0, .int .i64 0, .int .i64 0, .int .i64 0, .int .i64 0, .bool false, .int .i64 0, .int .i64 0, .int .i64 0, .slice none 0 0, .int .i64 0, .int .i64 0, .int .i64 0, .string ⟨#[]⟩] 28)) w6 s3) := RdR.below HW5.out hl6; have tok6 : True := trivial; clear hb6 hl6 _h tok5) | (have _h := tok6; refine wpList_load_row rfl 63 _ rfl w5.heap.size rfl 63 CS (0, 0) _ HB6.out Tryz.underlying63 rfl (by rw [HZ.out]; exact Tryz.info63) ?_; clear _h) | (have _h := tok6; refine wpList_store_row rfl 28 _ _ rfl w.heap.size #[.int .i64 0, .int .i64 0, .string ⟨#[]⟩, .int .i64 0, .int .i64 0, .int .i64 0, .int .i64 0, .int .i64 0, .bool false, .int .i64 0, .int .i64 0, .int .i64 0, .slice none 0 0, .int .i64 0, .int .i64 0, .int .i64 0, .string ⟨#[]⟩] rfl rfl 28 _ (HRZ.out _ _ HW6.out).1 Tryz.info28 rfl (by simp [Value.oneCell']) ?_; clear _h tok6) | (go_at_call 21; refine (HPQ2.out _).mono ?_; rintro e w8 ⟨rfl, hb8⟩; have HW8 : Hid (RdR (w.alloc (.cells #[.int .i64 0, .int .i64 0, .string ⟨#[]⟩, .int .i64 0, .int .i64 0, .int .i64 0, .int .i64 0, .int .i64 0, .bool false, .int .i64 0, .int .i64 0, .int .i64 0, .slice none 0 0, .int .i64 0, .int .i64 0, .int .i64 0, .string ⟨#[]⟩] 28)) w8 s3) := RdR.below HW6.out hb8; have hXX : (w.alloc (.cells #[.int .i64 0, .int .i64 0, .string ⟨#[]⟩, .int .i64 0, .int .i64 0, .int .i64 0, .int .i64 0, .int .i64 0, .bool false, .int .i64 0, .int .i64 0, .int .i64 0, .slice none 0 0, .int .i64 0, .int .i64 0, .int .i64 0, .string ⟨#[]⟩] 28)).heap.size < X := (by obtain ⟨_, _, q, _⟩ := HW4.out.box; have q1 := (Array.getElem?_eq_some_iff.1 q).1; have q2 := HXX.out; omega); have HX8 : Hid (BdX w8 X B p) := (BdX.keepB HX5.out HW5.out hXX (KeepB.of_below HL6.out)).keepB HW6.out hXX (KeepB.of_below hb8); have HX9 : Hid ((w.alloc (.cells #[.int .i64 0, .int .i64 0, .string ⟨#[]⟩, .int .i64 0, .int .i64 0, .int .i64 0, .int .i64 0, .int .i64 0, .bool false, .int .i64 0, .int .i64 0, .int .i64 0, .slice none 0 0, .int .i64 0, .int .i64 0, .int .i64 0, .string ⟨#[]⟩] 28)).heap.size < X) := hXX; obtain ⟨CQ, HCQ⟩ : ∃ CQ, Hid (rqc 0 0 B ((B 7).n == 1) p.ra p.rc = CQ) := ⟨_, rfl⟩; have HCZ : Hid (CQ.size = 17 ∧ CQ.all (·.oneCell') = true ∧ CQ[0]? = some (.int .i64 0) ∧ CQ[1]? = some (.int .i64 0) ∧ (CQ.setIfInBounds 0 (.int .i64 k)).setIfInBounds 1 (.int .i64 i) = rqc k i B ((B 7).n == 1) p.ra p.rc) := (by rw [← HCQ.out]; exact ⟨rfl, by simp [rqc, Value.oneCell'], rfl, rfl, rfl⟩); rw [HCQ.out]; have tok8 : True := trivial; clear hb8 hXX tok6) | (have _h := tok8; refine wpList_store_row rfl 28 _ _ rfl w8.heap.size CQ rfl rfl 28 #[.int .i64 0, .int .i64 0, .string ⟨#[]⟩, .int .i64 0, .int .i64 0, .int .i64 0, .int .i64 0, .int .i64 0, .bool false, .int .i64 0, .int .i64 0, .int .i64 0, .slice none 0 0, .int .i64 0, .int .i64 0, .int .i64 0, .string ⟨#[]⟩] (heap_alloc_new w8 _) (by rw [HCZ.out.1]; exact Tryz.info28) (by rw [HCZ.out.1]; rfl) HCZ.out.2.1 ?_; obtain ⟨hb9, hl9⟩ := box_new w8 #[.int .i64 0, .int .i64 0, .string ⟨#[]⟩, .int .i64 0, .int .i64 0, .int .i64 0, .int .i64 0, .int .i64 0, .bool false, .int .i64 0, .int .i64 0, .int .i64 0, .slice none 0 0, .int .i64 0, .int .i64 0, .int .i64 0, .string ⟨#[]⟩] CQ 28; generalize World.setRow _ w8.heap.size CQ = w9 at *; have q0 := (box_at hb9 0).1; have q1 := (box_at hb9 1).1; have f0 := (box_at hb9 0).2; have f1 := (box_at hb9 1).2; rw [HCZ.out.2.2.1] at q0; rw [HCZ.out.2.2.2.1] at q1; have HB9 : Hid (((w9.setCell ⟨w8.heap.size, 0, none⟩ (.int .i64 k)).setCell ⟨w8.heap.size, 1, none⟩ (.int .i64 i)).heap[w8.heap.size]? = some (.cells ((CQ.setIfInBounds 0 (.int .i64 k)).setIfInBounds 1 (.int .i64 i)) 28 (0, 0))) := two_put hb9; have HL9 : Hid (Below w8.heap.size w8 ((w9.setCell ⟨w8.heap.size, 0, none⟩ (.int .i64 k)).setCell ⟨w8.heap.size, 1, none⟩ (.int .i64 i))) := (hl9.setCell (p := ⟨w8.heap.size, 0, none⟩) (Nat.le_refl _) _).setCell (p := ⟨w8.heap.size, 1, none⟩) (Nat.le_refl _) _; have tok9 : True := trivial; clear hb9 hl9 _h tok8) | (have _h := tok9; refine wpList_load_row rfl 28 _ rfl w8.heap.size rfl 28 _ (0, 0) _ HB9.out Tryz.underlying28 rfl (by rw [Array.size_setIfInBounds, Array.size_setIfInBounds, HCZ.out.1]; exact Tryz.info28) ?_; rw [HCZ.out.2.2.2.2]; clear _h) | (have _h := tok9; refine wpList_store_row rfl 28 _ _ rfl w.heap.size _ rfl rfl 28 #[.int .i64 0, .int .i64 0, .string ⟨#[]⟩, .int .i64 0, .int .i64 0, .int .i64 0, .int .i64 0, .int .i64 0, .bool false, .int .i64 0, .int .i64 0, .int .i64 0, .slice none 0 0, .int .i64 0, .int .i64 0, .int .i64 0, .string ⟨#[]⟩] (HRZ.out _ _ (RdR.below HW8.out HL9.out)).1 Tryz.info28 rfl (by simp [rqc, Value.oneCell']) ?_; clear _h tok9) | (go_at_call 20; refine (HE.out _ HW6.out).mono ?_; rintro e w7 ⟨rfl, rfl⟩))
    (refine bodyPost_ret (v := .tuple #[.agg #[.int .i64 0, .int .i64 0, .string ⟨#[]⟩, .int .i64 0, .int .i64 0, .int .i64 0, .int .i64 0, .int .i64 0, .bool false, .int .i64 0, .int .i64 0, .int .i64 0, .slice none 0 0, .int .i64 0, .int .i64 0, .int .i64 0, .string ⟨#[]⟩], .int .i64 13]) ?_ rfl (HP0.out rfl _ (below_setRow (HRZ.out _ _ HW6.out).2 (Nat.le_refl _) _)); exact results_26 (p := 2) (u := 3) (by rfl) _ _ w.heap.size _ _ (by rfl) (by rfl) rfl (setRow_heap _ _ _ _ _ _ (HRZ.out _ _ HW6.out).1))
  · cases done
    · go_enter Tryz.func6, Tryz.ntmps6
      go_wp2_with (first | (have _h := tok1; go_at_call 17; refine (H1.out _ HS.out).mono ?_; rintro e w2 ⟨rfl, hw2, hk2⟩; have HW2 : Hid (RdR (w.alloc (.cells #[.int .i64 0, .int .i64 0, .string ⟨#[]⟩, .int .i64 0, .int .i64 0, .int .i64 0, .int .i64 0, .int .i64 0, .bool false, .int .i64 0, .int .i64 0, .int .i64 0, .slice none 0 0, .int .i64 0, .int .i64 0, .int .i64 0, .string ⟨#[]⟩] 28)) w2 s1) := hw2; have tok2 : True := trivial; clear hw2 hk2 _h tok1) | (have _h := tok2; go_at_call 17; refine (H2.out _ HW2.out).mono ?_; rintro e w3 ⟨rfl, hw3, hk3⟩; have HW3 : Hid (RdR (w.alloc (.cells #[.int .i64 0, .int .i64 0, .string ⟨#[]⟩, .int .i64 0, .int .i64 0, .int .i64 0, .int .i64 0, .int .i64 0, .bool false, .int .i64 0, .int .i64 0, .int .i64 0, .slice none 0 0, .int .i64 0, .int .i64 0, .int .i64 0, .string ⟨#[]⟩] 28)) w3 s2) := hw3; clear hw3 hk3 _h tok2) | (go_at_call 18; refine (HR.out _).mono ?_; rintro e w4 ⟨⟨a1, c1, rfl, hf1⟩, hb1⟩; rw [HI.out.1, HI.out.2]; have HW4 : Hid (RdR (w.alloc (.cells #[.int .i64 0, .int .i64 0, .string ⟨#[]⟩, .int .i64 0, .int .i64 0, .int .i64 0, .int .i64 0, .int .i64 0, .bool false, .int .i64 0, .int .i64 0, .int .i64 0, .slice none 0 0, .int .i64 0, .int .i64 0, .int .i64 0, .string ⟨#[]⟩] 28)) w4 s2) := RdR.below HW3.out hb1; have HFR : Hid (FRow w4 a1 (rowOr T)) := hf1; clear hf1 hb1) | (go_at_call 19; refine (HF.out _ _ _ HW4.out HFR.out).mono ?_; rintro e w5 ⟨p, X, hX, rfl, hx5, hw5, hk5⟩; have HX5 : Hid (BdX w5 X B p) := hx5; have HW5 : Hid (RdR (w.alloc (.cells #[.int .i64 0, .int .i64 0, .string ⟨#[]⟩, .int .i64 0, .int .i64 0, .int .i64 0, .int .i64 0, .int .i64 0, .bool false, .int .i64 0, .int .i64 0, .int .i64 0, .slice none 0 0, .int .i64 0, .int .i64 0, .int .i64 0, .string ⟨#[]⟩] 28)) w5 s3) := hw5; have HXX : Hid (w4.heap.size ≤ X) := hX; have HZ : Hid ((bdc B p).size = 44) := bdc_size _ _; have HONE : Hid ((bdc B p).all (·.oneCell') = true) := all_one; have HPQ2 : Hid _ := HPQ.out B p; obtain ⟨CS, HCS⟩ : ∃ CS, Hid (bdc B p = CS) := ⟨_, rfl⟩; rw [HCS.out] at HZ HONE HPQ2 ⊢; have tok5 : True := trivial; clear hx5 hw5 hX hk5) | (have _h := tok5; refine wpList_store_row rfl 63 _ _ rfl w5.heap.size CS rfl rfl 63 (List.toArray (Value.int .i64 0 :: Value.int .i64 0 :: Value.int .i64 0 :: Value.int .i64 0 :: Value.int .i64 0 :: Value.int .i64 0 :: Value.int .i64 0 :: Value.int .i64 0 :: Value.int .i64 0 :: Value.int .i64 0 :: Value.int .i64 0 :: Value.int .i64 0 :: Value.int .i64 0 :: Value.int .i64 0 :: Value.int .i64 0 :: Value.int .i64 0 :: Value.int .i64 0 :: Value.int .i64 0 :: Value.int .i64 0 :: Value.int .i64 0 :: Value.string ⟨#[]⟩ :: Value.string ⟨#[]⟩ :: Value.string ⟨#[]⟩ :: Value.string ⟨#[]⟩ :: Value.string ⟨#[]⟩ :: Value.string ⟨#[]⟩ :: Value.string ⟨#[]⟩ :: Value.string ⟨#[]⟩ :: Value.string ⟨#[]⟩ :: Value.string ⟨#[]⟩ :: Value.string ⟨#[]⟩ :: Value.string ⟨#[]⟩ :: Value.string ⟨#[]⟩ :: Value.string ⟨#[]⟩ :: Value.string ⟨#[]⟩ :: Value.string ⟨#[]⟩ :: Value.string ⟨#[]⟩ :: Value.string ⟨#[]⟩ :: Value.string ⟨#[]⟩ :: Value.string ⟨#[]⟩ :: Value.slice none 0 0 :: Value.slice none 0 0 :: Value.slice none 0 0 :: Value.slice none 0 0 :: [])) (heap_alloc_new w5 _) (by rw [HZ.out]; exact Tryz.info63) (by rw [HZ.out]; rfl) HONE.out ?_; obtain ⟨hb6, hl6⟩ := box_new w5 _ CS 63; generalize World.setRow _ w5.heap.size CS = w6 at *; have HB6 : Hid (w6.heap[w5.heap.size]? = some (.cells CS 63 (0, 0))) := hb6; have HL6 : Hid (Below w5.heap.size w5 w6) := hl6; have HW6 : Hid (RdR (w.alloc (.cells #[.int .i64 0, .int .i64 0, .string ⟨#[]⟩, .int .i64 0, .int .i64 0, .int .i64 0, .int .i64 0, .int .i64 0, .bool false, .int .i64 0, .int .i64 0, .int .i64 0, .slice none 0 0, .int .i64 0, .int .i64 0, .int .i64 0, .string ⟨#[]⟩] 28)) w6 s3) := RdR.below HW5.out hl6; have tok6 : True := trivial; clear hb6 hl6 _h tok5) | (have _h := tok6; refine wpList_load_row rfl 63 _ rfl w5.heap.size rfl 63 CS (0, 0) _ HB6.out Tryz.underlying63 rfl (by rw [HZ.out]; exact Tryz.info63) ?_; clear _h) | (have _h := tok6; refine wpList_store_row rfl 28 _ _ rfl w.heap.size #[.int .i64 0, .int .i64 0, .string ⟨#[]⟩, .int .i64 0, .int .i64 0, .int .i64 0, .int .i64 0, .int .i64 0, .bool false, .int .i64 0, .int .i64 0, .int .i64 0, .slice none 0 0, .int .i64 0, .int .i64 0, .int .i64 0, .string ⟨#[]⟩] rfl rfl 28 _ (HRZ.out _ _ HW6.out).1 Tryz.info28 rfl (by simp [Value.oneCell']) ?_; clear _h tok6) | (go_at_call 21; refine (HPQ2.out _).mono ?_; rintro e w8 ⟨rfl, hb8⟩; have HW8 : Hid (RdR (w.alloc (.cells #[.int .i64 0, .int .i64 0, .string ⟨#[]⟩, .int .i64 0, .int .i64 0, .int .i64 0, .int .i64 0, .int .i64 0, .bool false, .int .i64 0, .int .i64 0, .int .i64 0, .slice none 0 0, .int .i64 0, .int .i64 0, .int .i64 0, .string ⟨#[]⟩] 28)) w8 s3) := RdR.below HW6.out hb8; have hXX : (w.alloc (.cells #[.int .i64 0, .int .i64 0, .string ⟨#[]⟩, .int .i64 0, .int .i64 0, .int .i64 0, .int .i64 0, .int .i64 0, .bool false, .int .i64 0, .int .i64 0, .int .i64 0, .slice none 0 0, .int .i64 0, .int .i64 0, .int .i64 0, .string ⟨#[]⟩] 28)).heap.size < X := (by obtain ⟨_, _, q, _⟩ := HW4.out.box; have q1 := (Array.getElem?_eq_some_iff.1 q).1; have q2 := HXX.out; omega); have HX8 : Hid (BdX w8 X B p) := (BdX.keepB HX5.out HW5.out hXX (KeepB.of_below HL6.out)).keepB HW6.out hXX (KeepB.of_below hb8); have HX9 : Hid ((w.alloc (.cells #[.int .i64 0, .int .i64 0, .string ⟨#[]⟩, .int .i64 0, .int .i64 0, .int .i64 0, .int .i64 0, .int .i64 0, .bool false, .int .i64 0, .int .i64 0, .int .i64 0, .slice none 0 0, .int .i64 0, .int .i64 0, .int .i64 0, .string ⟨#[]⟩] 28)).heap.size < X) := hXX; obtain ⟨CQ, HCQ⟩ : ∃ CQ, Hid (rqc 0 0 B ((B 7).n == 1) p.ra p.rc = CQ) := ⟨_, rfl⟩; have HCZ : Hid (CQ.size = 17 ∧ CQ.all (·.oneCell') = true ∧ CQ[0]? = some (.int .i64 0) ∧ CQ[1]? = some (.int .i64 0) ∧ (CQ.setIfInBounds 0 (.int .i64 k)).setIfInBounds 1 (.int .i64 i) = rqc k i B ((B 7).n == 1) p.ra p.rc) := (by rw [← HCQ.out]; exact ⟨rfl, by simp [rqc, Value.oneCell'], rfl, rfl, rfl⟩); rw [HCQ.out]; have tok8 : True := trivial; clear hb8 hXX tok6) | (have _h := tok8; refine wpList_store_row rfl 28 _ _ rfl w8.heap.size CQ rfl rfl 28 #[.int .i64 0, .int .i64 0, .string ⟨#[]⟩, .int .i64 0, .int .i64 0, .int .i64 0, .int .i64 0, .int .i64 0, .bool false, .int .i64 0, .int .i64 0, .int .i64 0, .slice none 0 0, .int .i64 0, .int .i64 0, .int .i64 0, .string ⟨#[]⟩] (heap_alloc_new w8 _) (by rw [HCZ.out.1]; exact Tryz.info28) (by rw [HCZ.out.1]; rfl) HCZ.out.2.1 ?_; obtain ⟨hb9, hl9⟩ := box_new w8 #[.int .i64 0, .int .i64 0, .string ⟨#[]⟩, .int .i64 0, .int .i64 0, .int .i64 0, .int .i64 0, .int .i64 0, .bool false, .int .i64 0, .int .i64 0, .int .i64 0, .slice none 0 0, .int .i64 0, .int .i64 0, .int .i64 0, .string ⟨#[]⟩] CQ 28; generalize World.setRow _ w8.heap.size CQ = w9 at *; have q0 := (box_at hb9 0).1; have q1 := (box_at hb9 1).1; have f0 := (box_at hb9 0).2; have f1 := (box_at hb9 1).2; rw [HCZ.out.2.2.1] at q0; rw [HCZ.out.2.2.2.1] at q1; have HB9 : Hid (((w9.setCell ⟨w8.heap.size, 0, none⟩ (.int .i64 k)).setCell ⟨w8.heap.size, 1, none⟩ (.int .i64 i)).heap[w8.heap.size]? = some (.cells ((CQ.setIfInBounds 0 (.int .i64 k)).setIfInBounds 1 (.int .i64 i)) 28 (0, 0))) := two_put hb9; have HL9 : Hid (Below w8.heap.size w8 ((w9.setCell ⟨w8.heap.size, 0, none⟩ (.int .i64 k)).setCell ⟨w8.heap.size, 1, none⟩ (.int .i64 i))) := (hl9.setCell (p := ⟨w8.heap.size, 0, none⟩) (Nat.le_refl _) _).setCell (p := ⟨w8.heap.size, 1, none⟩) (Nat.le_refl _) _; have tok9 : True := trivial; clear hb9 hl9 _h tok8) | (have _h := tok9; refine wpList_load_row rfl 28 _ rfl w8.heap.size rfl 28 _ (0, 0) _ HB9.out Tryz.underlying28 rfl (by rw [Array.size_setIfInBounds, Array.size_setIfInBounds, HCZ.out.1]; exact Tryz.info28) ?_; rw [HCZ.out.2.2.2.2]; clear _h) | (have _h := tok9; refine wpList_store_row rfl 28 _ _ rfl w.heap.size _ rfl rfl 28 #[.int .i64 0, .int .i64 0, .string ⟨#[]⟩, .int .i64 0, .int .i64 0, .int .i64 0, .int .i64 0, .int .i64 0, .bool false, .int .i64 0, .int .i64 0, .int .i64 0, .slice none 0 0, .int .i64 0, .int .i64 0, .int .i64 0, .string ⟨#[]⟩] (HRZ.out _ _ (RdR.below HW8.out HL9.out)).1 Tryz.info28 rfl (by simp [rqc, Value.oneCell']) ?_; clear _h tok9) | (go_at_call 20; refine (HE.out _ HW6.out).mono ?_; rintro e w7 ⟨rfl, rfl⟩))
      (refine bodyPost_ret (v := .tuple #[.agg #[.int .i64 0, .int .i64 0, .string ⟨#[]⟩, .int .i64 0, .int .i64 0, .int .i64 0, .int .i64 0, .int .i64 0, .bool false, .int .i64 0, .int .i64 0, .int .i64 0, .slice none 0 0, .int .i64 0, .int .i64 0, .int .i64 0, .string ⟨#[]⟩], .int .i64 13]) ?_ rfl (HP0.out rfl _ (below_setRow (HRZ.out _ _ HW6.out).2 (Nat.le_refl _) _)); exact results_26 (p := 2) (u := 3) (by rfl) _ _ w.heap.size _ _ (by rfl) (by rfl) rfl (setRow_heap _ _ _ _ _ _ (HRZ.out _ _ HW6.out).1))
    · go_enter Tryz.func6, Tryz.ntmps6
      go_wp2_with (first | (have _h := tok1; go_at_call 17; refine (H1.out _ HS.out).mono ?_; rintro e w2 ⟨rfl, hw2, hk2⟩; have HW2 : Hid (RdR (w.alloc (.cells #[.int .i64 0, .int .i64 0, .string ⟨#[]⟩, .int .i64 0, .int .i64 0, .int .i64 0, .int .i64 0, .int .i64 0, .bool false, .int .i64 0, .int .i64 0, .int .i64 0, .slice none 0 0, .int .i64 0, .int .i64 0, .int .i64 0, .string ⟨#[]⟩] 28)) w2 s1) := hw2; have tok2 : True := trivial; clear hw2 hk2 _h tok1) | (have _h := tok2; go_at_call 17; refine (H2.out _ HW2.out).mono ?_; rintro e w3 ⟨rfl, hw3, hk3⟩; have HW3 : Hid (RdR (w.alloc (.cells #[.int .i64 0, .int .i64 0, .string ⟨#[]⟩, .int .i64 0, .int .i64 0, .int .i64 0, .int .i64 0, .int .i64 0, .bool false, .int .i64 0, .int .i64 0, .int .i64 0, .slice none 0 0, .int .i64 0, .int .i64 0, .int .i64 0, .string ⟨#[]⟩] 28)) w3 s2) := hw3; clear hw3 hk3 _h tok2) | (go_at_call 18; refine (HR.out _).mono ?_; rintro e w4 ⟨⟨a1, c1, rfl, hf1⟩, hb1⟩; rw [HI.out.1, HI.out.2]; have HW4 : Hid (RdR (w.alloc (.cells #[.int .i64 0, .int .i64 0, .string ⟨#[]⟩, .int .i64 0, .int .i64 0, .int .i64 0, .int .i64 0, .int .i64 0, .bool false, .int .i64 0, .int .i64 0, .int .i64 0, .slice none 0 0, .int .i64 0, .int .i64 0, .int .i64 0, .string ⟨#[]⟩] 28)) w4 s2) := RdR.below HW3.out hb1; have HFR : Hid (FRow w4 a1 (rowOr T)) := hf1; clear hf1 hb1) | (go_at_call 19; refine (HF.out _ _ _ HW4.out HFR.out).mono ?_; rintro e w5 ⟨p, X, hX, rfl, hx5, hw5, hk5⟩; have HX5 : Hid (BdX w5 X B p) := hx5; have HW5 : Hid (RdR (w.alloc (.cells #[.int .i64 0, .int .i64 0, .string ⟨#[]⟩, .int .i64 0, .int .i64 0, .int .i64 0, .int .i64 0, .int .i64 0, .bool false, .int .i64 0, .int .i64 0, .int .i64 0, .slice none 0 0, .int .i64 0, .int .i64 0, .int .i64 0, .string ⟨#[]⟩] 28)) w5 s3) := hw5; have HXX : Hid (w4.heap.size ≤ X) := hX; have HZ : Hid ((bdc B p).size = 44) := bdc_size _ _; have HONE : Hid ((bdc B p).all (·.oneCell') = true) := all_one; have HPQ2 : Hid _ := HPQ.out B p; obtain ⟨CS, HCS⟩ : ∃ CS, Hid (bdc B p = CS) := ⟨_, rfl⟩; rw [HCS.out] at HZ HONE HPQ2 ⊢; have tok5 : True := trivial; clear hx5 hw5 hX hk5) | (have _h := tok5; refine wpList_store_row rfl 63 _ _ rfl w5.heap.size CS rfl rfl 63 (List.toArray (Value.int .i64 0 :: Value.int .i64 0 :: Value.int .i64 0 :: Value.int .i64 0 :: Value.int .i64 0 :: Value.int .i64 0 :: Value.int .i64 0 :: Value.int .i64 0 :: Value.int .i64 0 :: Value.int .i64 0 :: Value.int .i64 0 :: Value.int .i64 0 :: Value.int .i64 0 :: Value.int .i64 0 :: Value.int .i64 0 :: Value.int .i64 0 :: Value.int .i64 0 :: Value.int .i64 0 :: Value.int .i64 0 :: Value.int .i64 0 :: Value.string ⟨#[]⟩ :: Value.string ⟨#[]⟩ :: Value.string ⟨#[]⟩ :: Value.string ⟨#[]⟩ :: Value.string ⟨#[]⟩ :: Value.string ⟨#[]⟩ :: Value.string ⟨#[]⟩ :: Value.string ⟨#[]⟩ :: Value.string ⟨#[]⟩ :: Value.string ⟨#[]⟩ :: Value.string ⟨#[]⟩ :: Value.string ⟨#[]⟩ :: Value.string ⟨#[]⟩ :: Value.string ⟨#[]⟩ :: Value.string ⟨#[]⟩ :: Value.string ⟨#[]⟩ :: Value.string ⟨#[]⟩ :: Value.string ⟨#[]⟩ :: Value.string ⟨#[]⟩ :: Value.string ⟨#[]⟩ :: Value.slice none 0 0 :: Value.slice none 0 0 :: Value.slice none 0 0 :: Value.slice none 0 0 :: [])) (heap_alloc_new w5 _) (by rw [HZ.out]; exact Tryz.info63) (by rw [HZ.out]; rfl) HONE.out ?_; obtain ⟨hb6, hl6⟩ := box_new w5 _ CS 63; generalize World.setRow _ w5.heap.size CS = w6 at *; have HB6 : Hid (w6.heap[w5.heap.size]? = some (.cells CS 63 (0, 0))) := hb6; have HL6 : Hid (Below w5.heap.size w5 w6) := hl6; have HW6 : Hid (RdR (w.alloc (.cells #[.int .i64 0, .int .i64 0, .string ⟨#[]⟩, .int .i64 0, .int .i64 0, .int .i64 0, .int .i64 0, .int .i64 0, .bool false, .int .i64 0, .int .i64 0, .int .i64 0, .slice none 0 0, .int .i64 0, .int .i64 0, .int .i64 0, .string ⟨#[]⟩] 28)) w6 s3) := RdR.below HW5.out hl6; have tok6 : True := trivial; clear hb6 hl6 _h tok5) | (have _h := tok6; refine wpList_load_row rfl 63 _ rfl w5.heap.size rfl 63 CS (0, 0) _ HB6.out Tryz.underlying63 rfl (by rw [HZ.out]; exact Tryz.info63) ?_; clear _h) | (have _h := tok6; refine wpList_store_row rfl 28 _ _ rfl w.heap.size #[.int .i64 0, .int .i64 0, .string ⟨#[]⟩, .int .i64 0, .int .i64 0, .int .i64 0, .int .i64 0, .int .i64 0, .bool false, .int .i64 0, .int .i64 0, .int .i64 0, .slice none 0 0, .int .i64 0, .int .i64 0, .int .i64 0, .string ⟨#[]⟩] rfl rfl 28 _ (HRZ.out _ _ HW6.out).1 Tryz.info28 rfl (by simp [Value.oneCell']) ?_; clear _h tok6) | (go_at_call 21; refine (HPQ2.out _).mono ?_; rintro e w8 ⟨rfl, hb8⟩; have HW8 : Hid (RdR (w.alloc (.cells #[.int .i64 0, .int .i64 0, .string ⟨#[]⟩, .int .i64 0, .int .i64 0, .int .i64 0, .int .i64 0, .int .i64 0, .bool false, .int .i64 0, .int .i64 0, .int .i64 0, .slice none 0 0, .int .i64 0, .int .i64 0, .int .i64 0, .string ⟨#[]⟩] 28)) w8 s3) := RdR.below HW6.out hb8; have hXX : (w.alloc (.cells #[.int .i64 0, .int .i64 0, .string ⟨#[]⟩, .int .i64 0, .int .i64 0, .int .i64 0, .int .i64 0, .int .i64 0, .bool false, .int .i64 0, .int .i64 0, .int .i64 0, .slice none 0 0, .int .i64 0, .int .i64 0, .int .i64 0, .string ⟨#[]⟩] 28)).heap.size < X := (by obtain ⟨_, _, q, _⟩ := HW4.out.box; have q1 := (Array.getElem?_eq_some_iff.1 q).1; have q2 := HXX.out; omega); have HX8 : Hid (BdX w8 X B p) := (BdX.keepB HX5.out HW5.out hXX (KeepB.of_below HL6.out)).keepB HW6.out hXX (KeepB.of_below hb8); have HX9 : Hid ((w.alloc (.cells #[.int .i64 0, .int .i64 0, .string ⟨#[]⟩, .int .i64 0, .int .i64 0, .int .i64 0, .int .i64 0, .int .i64 0, .bool false, .int .i64 0, .int .i64 0, .int .i64 0, .slice none 0 0, .int .i64 0, .int .i64 0, .int .i64 0, .string ⟨#[]⟩] 28)).heap.size < X) := hXX; obtain ⟨CQ, HCQ⟩ : ∃ CQ, Hid (rqc 0 0 B ((B 7).n == 1) p.ra p.rc = CQ) := ⟨_, rfl⟩; have HCZ : Hid (CQ.size = 17 ∧ CQ.all (·.oneCell') = true ∧ CQ[0]? = some (.int .i64 0) ∧ CQ[1]? = some (.int .i64 0) ∧ (CQ.setIfInBounds 0 (.int .i64 k)).setIfInBounds 1 (.int .i64 i) = rqc k i B ((B 7).n == 1) p.ra p.rc) := (by rw [← HCQ.out]; exact ⟨rfl, by simp [rqc, Value.oneCell'], rfl, rfl, rfl⟩); rw [HCQ.out]; have tok8 : True := trivial; clear hb8 hXX tok6) | (have _h := tok8; refine wpList_store_row rfl 28 _ _ rfl w8.heap.size CQ rfl rfl 28 #[.int .i64 0, .int .i64 0, .string ⟨#[]⟩, .int .i64 0, .int .i64 0, .int .i64 0, .int .i64 0, .int .i64 0, .bool false, .int .i64 0, .int .i64 0, .int .i64 0, .slice none 0 0, .int .i64 0, .int .i64 0, .int .i64 0, .string ⟨#[]⟩] (heap_alloc_new w8 _) (by rw [HCZ.out.1]; exact Tryz.info28) (by rw [HCZ.out.1]; rfl) HCZ.out.2.1 ?_; obtain ⟨hb9, hl9⟩ := box_new w8 #[.int .i64 0, .int .i64 0, .string ⟨#[]⟩, .int .i64 0, .int .i64 0, .int .i64 0, .int .i64 0, .int .i64 0, .bool false, .int .i64 0, .int .i64 0, .int .i64 0, .slice none 0 0, .int .i64 0, .int .i64 0, .int .i64 0, .string ⟨#[]⟩] CQ 28; generalize World.setRow _ w8.heap.size CQ = w9 at *; have q0 := (box_at hb9 0).1; have q1 := (box_at hb9 1).1; have f0 := (box_at hb9 0).2; have f1 := (box_at hb9 1).2; rw [HCZ.out.2.2.1] at q0; rw [HCZ.out.2.2.2.1] at q1; have HB9 : Hid (((w9.setCell ⟨w8.heap.size, 0, none⟩ (.int .i64 k)).setCell ⟨w8.heap.size, 1, none⟩ (.int .i64 i)).heap[w8.heap.size]? = some (.cells ((CQ.setIfInBounds 0 (.int .i64 k)).setIfInBounds 1 (.int .i64 i)) 28 (0, 0))) := two_put hb9; have HL9 : Hid (Below w8.heap.size w8 ((w9.setCell ⟨w8.heap.size, 0, none⟩ (.int .i64 k)).setCell ⟨w8.heap.size, 1, none⟩ (.int .i64 i))) := (hl9.setCell (p := ⟨w8.heap.size, 0, none⟩) (Nat.le_refl _) _).setCell (p := ⟨w8.heap.size, 1, none⟩) (Nat.le_refl _) _; have tok9 : True := trivial; clear hb9 hl9 _h tok8) | (have _h := tok9; refine wpList_load_row rfl 28 _ rfl w8.heap.size rfl 28 _ (0, 0) _ HB9.out Tryz.underlying28 rfl (by rw [Array.size_setIfInBounds, Array.size_setIfInBounds, HCZ.out.1]; exact Tryz.info28) ?_; rw [HCZ.out.2.2.2.2]; clear _h) | (have _h := tok9; refine wpList_store_row rfl 28 _ _ rfl w.heap.size _ rfl rfl 28 #[.int .i64 0, .int .i64 0, .string ⟨#[]⟩, .int .i64 0, .int .i64 0, .int .i64 0, .int .i64 0, .int .i64 0, .bool false, .int .i64 0, .int .i64 0, .int .i64 0, .slice none 0 0, .int .i64 0, .int .i64 0, .int .i64 0, .string ⟨#[]⟩] (HRZ.out _ _ (RdR.below HW8.out HL9.out)).1 Tryz.info28 rfl (by simp [rqc, Value.oneCell']) ?_; clear _h tok9) | (go_at_call 20; refine (HE.out _ HW6.out).mono ?_; rintro e w7 ⟨rfl, rfl⟩))
      have hR9 := RdR.below HW8.out HL9.out
      have hX9 : w.heap.size + 1 < X := by have := HX9.out; rw [HYS.out] at this; exact this
      refine bodyPost_ret (v := .tuple #[.agg (rqc k i B ((B 7).n == 1) p.ra p.rc), .int .i64 0]) ?_ rfl (HP1.out rfl p X _ hX9 ((BdX.keepB HX8.out HW8.out HX9.out (KeepB.of_below HL9.out)).off (HRZ.out _ _ hR9).1 z26_no (by omega)) (below_setRow (HRZ.out _ _ hR9).2 (Nat.le_refl _) _))
      exact results_26 (p := 2) (u := 3) (by rfl) _ _ w.heap.size _ _ (by rfl) (by rfl) rfl (setRow_heap _ _ _ _ _ _ (HRZ.out _ _ hR9).1)
/-- What ParseRequest tells. -/
def QP (t : Option (Int × Int × Bd)) (w : World) (e : Ending) (w' : World) : Prop := Below w.heap.size w w' ∧ (t = none → e = .returned (.tuple #[.agg z26, .int .i64 13])) ∧ ∀ k i b, t = some (k, i, b) → ∃ p X, w.heap.size + 1 < X ∧ e = .returned (.tuple #[.agg (rqc k i b ((b 7).n == 1) p.ra p.rc), .int .i64 0]) ∧ BdX w' X b p
theorem rowOr_ok {T : Option (List Nat)} (h : ∀ r, T = some r → r.Nodup ∧ ∀ f, f ∈ r → f < 20) : (rowOr T).Nodup ∧ ∀ f, f ∈ rowOr T → f < 20 := by
  cases T with
  | none => exact ⟨List.nodup_nil, fun f hf => by cases hf⟩
  | some r => exact h r rfl
theorem parseQ_any (w : World) (a : Option Addr) (cap : Nat) (l : List Nat) (ht : Tab w) (hr : Row w a l) (hl : l.length ≤ cap) (hc : cap ≤ maxLen) (hn : a = none → cap = 0) (hbig : l.length ≤ 1000000000000) :
    Calls Tryz.prog 6 #[.slice a l.length cap] w (QP (reqP l) w) := by
  have hys : (w.alloc (.cells #[.int .i64 0, .int .i64 0, .string ⟨#[]⟩, .int .i64 0, .int .i64 0, .int .i64 0, .int .i64 0, .int .i64 0, .bool false, .int .i64 0, .int .i64 0, .int .i64 0, .slice none 0 0, .int .i64 0, .int .i64 0, .int .i64 0, .string ⟨#[]⟩] 28)).heap.size = w.heap.size + 1 := by simp
  have htY : Tab (w.alloc (.cells #[.int .i64 0, .int .i64 0, .string ⟨#[]⟩, .int .i64 0, .int .i64 0, .int .i64 0, .int .i64 0, .int .i64 0, .bool false, .int .i64 0, .int .i64 0, .int .i64 0, .slice none 0 0, .int .i64 0, .int .i64 0, .int .i64 0, .string ⟨#[]⟩] 28)) := ht.below (below_box _)
  refine parseQ_in w a cap l (gNat 1 (some l)).1 (gNat 4 (gNat 1 (some l)).2).1 (rowQ (gNat 1 (some l)).1) _ _ (decide ((reqS l).2 = some [])) (gNat 1 (some l)).2 (gNat 4 (gNat 1 (some l)).2).2 (reqS l).2 (reqS l).1.2.2 _ (RdR.new _ a cap l (hr.below (below_box _)) hl hc hn hbig) ⟨rfl, rfl⟩ ?_ ?_ (fun x => rowOf_any 0 _ (.inl rfl) x) ?_ ?_ ?_ ?_
  · intro x hx
    have q := rnat_any _ x (some l) 1 1 rfl (by decide) (by decide) hx
    rw [hys] at q
    exact q
  · intro x hx
    have q := rnat_any _ x _ 4 4 rfl (by decide) (by decide) hx
    rw [hys] at q
    exact q
  · intro x a2 c2 hx hf
    obtain ⟨q1, q2⟩ := rowOr_ok (T := rowQ (gNat 1 (some l)).1) (fun r e => rowQ_ok e)
    have q := rfields_any _ x _ a2 c2 _ htY rowQ_len q2 q1 hf hx
    rw [hys] at q
    exact q
  · intro x hx
    have q := ended_any _ x _ hx
    rw [hys] at q
    exact q
  · intro hno w' hb
    have e : reqP l = none := by
      unfold reqP
      rw [if_neg]
      rintro ⟨q1, q2⟩
      rw [show (reqS l).1.1 = (gNat 1 (some l)).1 from rfl] at q1
      rw [q1, q2] at hno
      simp at hno
    rw [e]
    exact ⟨hb, fun _ => rfl, fun k i b q => by cases q⟩
  · intro hyes p X w' hX hx hb
    have e : reqP l = some (reqS l).1 := by
      unfold reqP
      simp only [Bool.and_eq_true, decide_eq_true_eq] at hyes
      rw [if_pos ⟨hyes.1, hyes.2⟩]
    rw [e]
    refine ⟨hb, fun q => (by cases q), fun k i b q => ?_⟩
    simp only [Option.some.injEq] at q
    have q1 : k = (reqS l).1.1 := by rw [q]
    have q2 : i = (reqS l).1.2.1 := by rw [q]
    have q3 : b = (reqS l).1.2.2 := by rw [q]
    subst q1 q2 q3
    exact ⟨p, X, hX, rfl, hx⟩
end Go.Proofs.YtaooidckmepdeaaGreatDoor
namespace Go.Proofs.YtaooidckmepdeaaGreatDoor
set_option linter.unusedSimpArgs false
set_option linter.unusedVariables false
open Go.RowKit
theorem wp_append_text {w : World} {o : Oper} {a : Act} {K : Act → World → Prop} {Q : Exit → Act → World → Prop} (s x : Operand)
    (ho : o.op = .call { callee := .builtin .append, args := #[s, x], argTypes := #[22, 9] }) (B : Nat) (w0 : World)
    (v : Value) (n : Nat) (xs : List Value) (hs : a.eval s = v) (hown : w.ownsRow B 5 1 v n xs) (hB : Below B w0 w) (hBs : B ≤ w.heap.size)
    (t : ByteArray) (hx : a.eval x = .string t) (h63 : n + t.size ≤ 1000000)
    (h : ∀ v' w', w'.ownsRow B 5 1 v' (n + t.size) (xs ++ cv (sb t)) → Below B w0 w' → K (a.put o.dst v') w') : o.wp Tryz.prog a w K Q := by
  obtain ⟨i0, hi, hz0, hz1, hz2⟩ := info_parts Tryz.info5
  obtain ⟨v', w', hr, h2, h3, h4⟩ := Lib.run_append_own_string (P := Tryz.prog) w B 22 9 o.type 5 i0 Tryz.underlying22 Tryz.underlying9 hi hz0 hz1 hz2 v n xs hown t (by unfold maxLen; omega) (by omega) hBs
  rw [sb_cv] at h2
  unfold Oper.wp execOp
  simp only [ho, resolve, invoke, builtin, Sem.run_bind, Sem.run_pure, Result.andThen_ok, List.map_toArray, List.map_cons, List.map_nil, hs, hx, hr]
  exact h v' w' h2 (hB.grown h3 hBs (fun k hk => (hown.lt k hk).1))
theorem own_on {B : Nat} {w w' : World} {v : Value} {n : Nat} {xs : List Value} (h : w.ownsRow B 5 1 v n xs) (hb : Below w.heap.size w w') : w'.ownsRow B 5 1 v n xs := by
  refine World.ownsRow.kept (row := none) h ⟨hb.os, hb.tape, hb.output, hb.size, fun k hk _ => hb.block k hk⟩ ?_
  cases v.ownBlock with
  | none => exact .inl rfl
  | some g => exact .inr (by simp)
theorem owns_drew {B : Nat} {w : World} {v : Value} {n : Nat} {xs : List Value} (h : w.ownsRow B 5 1 v n xs) : w.drew.ownsRow B 5 1 v n xs := h
theorem lit_own (w : World) (h : Nat) {w2 : World} (hb : Below (w.alloc (.cells #[.int .u8 (h : Int)] 5)).heap.size (w.alloc (.cells #[.int .u8 (h : Int)] 5)) w2) : w2.ownsRow w.heap.size 5 1 (.slice (some ⟨w.heap.size, 0, none⟩) 1 1) 1 (cv [h]) := by
  refine own_on ?_ hb
  exact ⟨rfl, .inr ⟨w.heap.size, 1, #[.int .u8 (h : Int)], rfl, Nat.le_refl _, heap_alloc_new w _, Nat.le_refl _, by decide, rfl, rfl⟩⟩
theorem owns_list {B : Nat} {w : World} {v : Value} {n : Nat} {xs : List Value} {l : List Nat} (h : w.ownsRow B 5 1 v n xs) (e : xs = cv l) : w.ownsRow B 5 1 v l.length (cv l) := by
  have h1 := h.1
  subst e
  rw [cv_length, Nat.mul_one] at h1
  rw [h1]
  exact h
set_option maxRecDepth 100000 in
set_option maxHeartbeats 1000000 in
theorem renc_ff (k v : ByteArray) (t : Int) (o : Nat) (first : Int) (u : World) (k1 : k.size ≤ 2000) (v1 : v.size ≤ 2000) (f0 : 0 ≤ first) (f1 : first ≤ 1125899906842624) (zn : Nat) (l1 l2 l3 l4 : List Nat)
    (HC : Hid (∀ w', Calls Tryz.prog 93 #[.agg #[.bool false, .string k, .bool false, .string v, .int .i64 t, .int .i64 (o : Int)]] w' fun e w2 => e = .returned (.int .i64 0) ∧ Below w'.heap.size w' w2))
    (HV1 : Hid (Makes 106 #[.int .u64 (o : Int)] l1)) (HZ : Hid (∀ w', Calls Tryz.prog 107 #[.int .i64 (t - first)] w' fun e w2 => e = .returned (.int .u64 (zn : Int)) ∧ w2 = w'))
    (HV2 : Hid (Makes 106 #[.int .u64 (zn : Int)] l2)) (HV3 : Hid (Makes 106 #[.int .u64 (k.size : Int)] l3)) (HV4 : Hid (Makes 106 #[.int .u64 (v.size : Int)] l4))
    (q1 : l1.length ≤ 10) (q2 : l2.length ≤ 10) (q3 : l3.length ≤ 10) (q4 : l4.length ≤ 10)
    (hwo : IntKind.u64.wrap (o : Int) = (o : Int)) (hwt : IntKind.i64.wrap (t - first) = t - first) (hwk : IntKind.u64.wrap (k.size : Int) = (k.size : Int)) (hwv : IntKind.u64.wrap (v.size : Int) = (v.size : Int))
    (L : List Nat) (HL : Hid (L = 0 :: (l1 ++ (l2 ++ ([] ++ []))))) :
    Calls Tryz.prog 94 #[.agg #[.bool false, .string k, .bool false, .string v, .int .i64 t, .int .i64 (o : Int)], .int .i64 first] u fun e w' => ∃ x, e = .returned (.tuple #[x, .int .i64 0]) ∧ w'.ownsRow u.heap.size 5 1 x L.length (cv L) ∧ Below u.heap.size u w' := by
  have b1 : bits .or .u8 0 2 = 2 := by decide
  have b2 : bits .or .u8 1 2 = 3 := by decide
  have tok1 : True := trivial
  have tok2 : True := trivial
  go_enter Tryz.func94, Tryz.ntmps94
  go_wp2_with (first
    | (go_at_call 93; refine (HC.out _).mono ?_; rintro e w1 ⟨rfl, hb1⟩; obtain ⟨⟨z0, z1, z2, z3, z4, z5⟩, _⟩ := SE.below (SE.new u ⟨false, k, false, v, t, o⟩) hb1; simp only at z0 z1 z2 z3 z4 z5; have hz1 := World.block_lt_of_cell? _ _ z0; simp only at hz1)
    | (go_at_call 106; have _t := tok1; refine (HV1.out _).mono ?_; clear tok1 _t z0 z1 z2 z3 z4 z5 hz1; rintro e w2 ⟨a1, c1, rfl, R1, n1, hb2⟩; have ow2 := owns_le (lit_own w1 0 hb2) hb1.size; have hb12 := (hb1.alloc hb1.size (.cells #[.int .u8 0] 5)).trans (hb2.mono (Nat.le_trans hb1.size (below_box _).size)); clear hb1 hb2)
    | (at_builtin; have _t := tok2; refine wpList_append_row (by rfl) _ _ rfl _ _ _ _ _ rfl ow2 hb12 hb12.size a1 c1 l1 rfl R1 n1 (by omega) ?_; clear tok2 _t; intro v3 w3 own3 hb3; obtain ⟨⟨z0, z1, z2, z3, z4, z5⟩, _⟩ := SE.below (SE.new u ⟨false, k, false, v, t, o⟩) hb3; simp only at z0 z1 z2 z3 z4 z5; have hz1 := World.block_lt_of_cell? _ _ z0; simp only at hz1; clear ow2 R1)
    | (go_at_call 107; refine (HZ.out _).mono ?_; rintro e w4 ⟨rfl, hw⟩; subst w4)
    | (go_at_call 106; refine (HV2.out _).mono ?_; clear z0 z1 z2 z3 z4 z5 hz1; rintro e w5 ⟨a2, c2, rfl, R2, n2, hb5⟩; have ow5 := own_on own3 hb5; have hb35 := hb3.trans (hb5.mono hb3.size))
    | (at_builtin; refine wpList_append_row (by rfl) _ _ rfl _ _ _ _ _ rfl ow5 hb35 hb35.size a2 c2 l2 rfl R2 n2 (by omega) ?_; intro v6 w6 own6 hb6; obtain ⟨⟨z0, z1, z2, z3, z4, z5⟩, _⟩ := SE.below (SE.new u ⟨false, k, false, v, t, o⟩) hb6; simp only at z0 z1 z2 z3 z4 z5; have hz1 := World.block_lt_of_cell? _ _ z0; simp only at hz1; clear ow5 R2))
  go_ret2
  have hbb : Below u.heap.size u _ := (below_box (.cells #[.bool false, .string k, .bool false, .string v, .int .i64 t, .int .i64 (o : Int)] 84)).trans (hb6.mono (by simp))
  refine ⟨_, rfl, ?_, hbb⟩
  have := owns_le (B' := u.heap.size) own6 (by simp)
  exact owns_list this (by rw [HL.out]; simp [cv])
set_option maxRecDepth 100000 in
set_option maxHeartbeats 1000000 in
theorem renc_ft (k v : ByteArray) (t : Int) (o : Nat) (first : Int) (u : World) (k1 : k.size ≤ 2000) (v1 : v.size ≤ 2000) (f0 : 0 ≤ first) (f1 : first ≤ 1125899906842624) (zn : Nat) (l1 l2 l3 l4 : List Nat)
    (HC : Hid (∀ w', Calls Tryz.prog 93 #[.agg #[.bool false, .string k, .bool true, .string v, .int .i64 t, .int .i64 (o : Int)]] w' fun e w2 => e = .returned (.int .i64 0) ∧ Below w'.heap.size w' w2))
    (HV1 : Hid (Makes 106 #[.int .u64 (o : Int)] l1)) (HZ : Hid (∀ w', Calls Tryz.prog 107 #[.int .i64 (t - first)] w' fun e w2 => e = .returned (.int .u64 (zn : Int)) ∧ w2 = w'))
    (HV2 : Hid (Makes 106 #[.int .u64 (zn : Int)] l2)) (HV3 : Hid (Makes 106 #[.int .u64 (k.size : Int)] l3)) (HV4 : Hid (Makes 106 #[.int .u64 (v.size : Int)] l4))
    (q1 : l1.length ≤ 10) (q2 : l2.length ≤ 10) (q3 : l3.length ≤ 10) (q4 : l4.length ≤ 10)
    (hwo : IntKind.u64.wrap (o : Int) = (o : Int)) (hwt : IntKind.i64.wrap (t - first) = t - first) (hwk : IntKind.u64.wrap (k.size : Int) = (k.size : Int)) (hwv : IntKind.u64.wrap (v.size : Int) = (v.size : Int))
    (L : List Nat) (HL : Hid (L = 2 :: (l1 ++ (l2 ++ ([] ++ (l4 ++ sb v)))))) :
    Calls Tryz.prog 94 #[.agg #[.bool false, .string k, .bool true, .string v, .int .i64 t, .int .i64 (o : Int)], .int .i64 first] u fun e w' => ∃ x, e = .returned (.tuple #[x, .int .i64 0]) ∧ w'.ownsRow u.heap.size 5 1 x L.length (cv L) ∧ Below u.heap.size u w' := by
  have b1 : bits .or .u8 0 2 = 2 := by decide
  have b2 : bits .or .u8 1 2 = 3 := by decide
  have tok1 : True := trivial
  have tok2 : True := trivial
  go_enter Tryz.func94, Tryz.ntmps94
  go_wp2_with (first
    | (go_at_call 93; refine (HC.out _).mono ?_; rintro e w1 ⟨rfl, hb1⟩; obtain ⟨⟨z0, z1, z2, z3, z4, z5⟩, _⟩ := SE.below (SE.new u ⟨false, k, true, v, t, o⟩) hb1; simp only at z0 z1 z2 z3 z4 z5; have hz1 := World.block_lt_of_cell? _ _ z0; simp only at hz1)
    | (go_at_call 106; have _t := tok1; refine (HV1.out _).mono ?_; clear tok1 _t z0 z1 z2 z3 z4 z5 hz1; rintro e w2 ⟨a1, c1, rfl, R1, n1, hb2⟩; have ow2 := owns_le (lit_own w1 2 hb2) hb1.size; have hb12 := (hb1.alloc hb1.size (.cells #[.int .u8 2] 5)).trans (hb2.mono (Nat.le_trans hb1.size (below_box _).size)); clear hb1 hb2)
    | (at_builtin; have _t := tok2; refine wpList_append_row (by rfl) _ _ rfl _ _ _ _ _ rfl ow2 hb12 hb12.size a1 c1 l1 rfl R1 n1 (by omega) ?_; clear tok2 _t; intro v3 w3 own3 hb3; obtain ⟨⟨z0, z1, z2, z3, z4, z5⟩, _⟩ := SE.below (SE.new u ⟨false, k, true, v, t, o⟩) hb3; simp only at z0 z1 z2 z3 z4 z5; have hz1 := World.block_lt_of_cell? _ _ z0; simp only at hz1; clear ow2 R1)
    | (go_at_call 107; refine (HZ.out _).mono ?_; rintro e w4 ⟨rfl, hw⟩; subst w4)
    | (go_at_call 106; refine (HV2.out _).mono ?_; clear z0 z1 z2 z3 z4 z5 hz1; rintro e w5 ⟨a2, c2, rfl, R2, n2, hb5⟩; have ow5 := own_on own3 hb5; have hb35 := hb3.trans (hb5.mono hb3.size))
    | (at_builtin; refine wpList_append_row (by rfl) _ _ rfl _ _ _ _ _ rfl ow5 hb35 hb35.size a2 c2 l2 rfl R2 n2 (by omega) ?_; intro v6 w6 own6 hb6; obtain ⟨⟨z0, z1, z2, z3, z4, z5⟩, _⟩ := SE.below (SE.new u ⟨false, k, true, v, t, o⟩) hb6; simp only at z0 z1 z2 z3 z4 z5; have hz1 := World.block_lt_of_cell? _ _ z0; simp only at hz1; clear ow5 R2))
  clear z0 z1 z2 z3 z4 z5 hz1
  refine wp_region_lat (fun y => Below (u.alloc (.cells #[.bool false, .string k, .bool true, .string v, .int .i64 t, .int .i64 (o : Int)] 84)).heap.size (u.alloc (.cells #[.bool false, .string k, .bool true, .string v, .int .i64 t, .int .i64 (o : Int)] 84)) y) 10 (by kernel_rfl) (hb6.drew) (fun hHeld => ?_)
  refine lat_take 0 (v := ?_) rfl (by kernel_rfl) (by kernel_rfl) (by kernel_rfl) (by kernel_rfl) (fun _ _ _ h => h) (by rfl) ?_ (by assumption) ?_
  rotate_left
  · (intro w hSw; obtain ⟨⟨z0, z1, z2, z3, z4, z5⟩, _⟩ := SE.below (SE.new u ⟨false, k, true, v, t, o⟩) hSw; simp only at z0 z1 z2 z3 z4 z5; go_simp <;> with_reducible rfl)
  try simp only [Act.put, List.setIfInBounds_toArray, List.set_cons_zero, List.set_cons_succ]
  refine lat_take 1 (v := ?_) rfl (by kernel_rfl) (by kernel_rfl) (by kernel_rfl) (by kernel_rfl) (fun _ _ _ h => h) (by rfl) ?_ (by assumption) ?_
  rotate_left
  · (intro w hSw; obtain ⟨⟨z0, z1, z2, z3, z4, z5⟩, _⟩ := SE.below (SE.new u ⟨false, k, true, v, t, o⟩) hSw; simp only at z0 z1 z2 z3 z4 z5; go_simp <;> with_reducible rfl)
  try simp only [Act.put, List.setIfInBounds_toArray, List.set_cons_zero, List.set_cons_succ]
  refine lat_take 2 (v := ?_) rfl (by kernel_rfl) (by kernel_rfl) (by kernel_rfl) (by kernel_rfl) (fun _ _ _ h => h) (by rfl) ?_ (by assumption) ?_
  rotate_left
  · (intro w hSw; obtain ⟨⟨z0, z1, z2, z3, z4, z5⟩, _⟩ := SE.below (SE.new u ⟨false, k, true, v, t, o⟩) hSw; simp only at z0 z1 z2 z3 z4 z5; go_simp <;> with_reducible rfl)
  try simp only [Act.put, List.setIfInBounds_toArray, List.set_cons_zero, List.set_cons_succ]
  refine lat_take 3 (v := ?_) rfl (by kernel_rfl) (by kernel_rfl) (by kernel_rfl) (by kernel_rfl) (fun _ _ _ h => h) (by rfl) ?_ (by assumption) ?_
  rotate_left
  · (intro w hSw; obtain ⟨⟨z0, z1, z2, z3, z4, z5⟩, _⟩ := SE.below (SE.new u ⟨false, k, true, v, t, o⟩) hSw; simp only at z0 z1 z2 z3 z4 z5; go_simp <;> with_reducible rfl)
  try simp only [Act.put, List.setIfInBounds_toArray, List.set_cons_zero, List.set_cons_succ]
  refine lat_take 4 (v := ?_) rfl (by kernel_rfl) (by kernel_rfl) (by kernel_rfl) (by kernel_rfl) (fun _ _ _ h => h) (by rfl) ?_ (by assumption) ?_
  rotate_left
  · (intro w hSw; obtain ⟨⟨z0, z1, z2, z3, z4, z5⟩, _⟩ := SE.below (SE.new u ⟨false, k, true, v, t, o⟩) hSw; simp only at z0 z1 z2 z3 z4 z5; go_simp <;> with_reducible rfl)
  try simp only [Act.put, List.setIfInBounds_toArray, List.set_cons_zero, List.set_cons_succ]
  refine lat_take 7 (v := ?_) rfl (by kernel_rfl) (by kernel_rfl) (by kernel_rfl) (by kernel_rfl) (fun _ _ _ h => h) (by rfl) ?_ (by assumption) ?_
  rotate_left
  · (intro w hSw; obtain ⟨⟨z0, z1, z2, z3, z4, z5⟩, _⟩ := SE.below (SE.new u ⟨false, k, true, v, t, o⟩) hSw; simp only at z0 z1 z2 z3 z4 z5; go_simp <;> with_reducible rfl)
  try simp only [Act.put, List.setIfInBounds_toArray, List.set_cons_zero, List.set_cons_succ]
  refine lat_take 8 (v := ?_) rfl (by kernel_rfl) (by kernel_rfl) (by kernel_rfl) (by kernel_rfl) (fun _ _ _ h => h) (by rfl) ?_ (by assumption) ?_
  rotate_left
  · (intro w hSw; obtain ⟨⟨z0, z1, z2, z3, z4, z5⟩, _⟩ := SE.below (SE.new u ⟨false, k, true, v, t, o⟩) hSw; simp only at z0 z1 z2 z3 z4 z5; go_simp <;> with_reducible rfl)
  try simp only [Act.put, List.setIfInBounds_toArray, List.set_cons_zero, List.set_cons_succ]
  refine lat_one 5 rfl (by kernel_rfl) (by decide) (by rfl) (fun K hK => ?_)
  go_simp
  refine Calls.mono (HV4.out _) ?_
  rintro e xV ⟨aV, cV, rfl, RV, nV, hxV⟩
  try dsimp only
  have hyV := hHeld.trans (hxV.mono hHeld.size)
  have owV := own_on (owns_drew own6) hxV
  refine hK.out _ _ hyV (fun hH2 => ?_)
  clear hK hHeld
  try simp only [Act.put, List.setIfInBounds_toArray, List.set_cons_zero, List.set_cons_succ]
  refine lat_one 6 rfl (by kernel_rfl) (by decide) (by rfl) (fun K hK => ?_)
  refine wp_append_row _ _ rfl _ _ _ _ _ rfl owV hH2 hH2.size aV cV l4 rfl RV nV (by omega) ?_
  intro vV yV oxV hzV
  refine hK.out _ _ hzV (fun hH3 => ?_)
  clear hK hH2
  try simp only [Act.put, List.setIfInBounds_toArray, List.set_cons_zero, List.set_cons_succ]
  refine lat_one 9 rfl (by kernel_rfl) (by decide) (by rfl) (fun K hK => ?_)
  refine wp_append_text _ _ rfl _ _ _ _ _ rfl oxV hH3 hH3.size v rfl (by omega) ?_
  intro vvV yyV ownV hbV
  refine hK.out _ _ hbV (fun hH4 => ?_)
  clear hK hH3 hH4 oxV owV
  try simp only [Act.put, List.setIfInBounds_toArray, List.set_cons_zero, List.set_cons_succ]
  refine lat_last 10 rfl (by kernel_rfl) (by decide) (by kernel_rfl) (by rfl) (fun K hK => ?_)
  go_simp
  refine hK.out _ _ ?_
  clear hK
  try simp only [Act.put, List.setIfInBounds_toArray, List.set_cons_zero, List.set_cons_succ]
  go_wp2_with fail
  go_ret2
  have hbb : Below u.heap.size u _ := (below_box (.cells #[.bool false, .string k, .bool true, .string v, .int .i64 t, .int .i64 (o : Int)] 84)).trans (hbV.mono (by simp))
  refine ⟨_, rfl, ?_, hbb⟩
  have := owns_le (B' := u.heap.size) ownV (by simp)
  exact owns_list this (by rw [HL.out]; simp [cv])
set_option maxRecDepth 100000 in
set_option maxHeartbeats 1000000 in
theorem renc_tf (k v : ByteArray) (t : Int) (o : Nat) (first : Int) (u : World) (k1 : k.size ≤ 2000) (v1 : v.size ≤ 2000) (f0 : 0 ≤ first) (f1 : first ≤ 1125899906842624) (zn : Nat) (l1 l2 l3 l4 : List Nat)
    (HC : Hid (∀ w', Calls Tryz.prog 93 #[.agg #[.bool true, .string k, .bool false, .string v, .int .i64 t, .int .i64 (o : Int)]] w' fun e w2 => e = .returned (.int .i64 0) ∧ Below w'.heap.size w' w2))
    (HV1 : Hid (Makes 106 #[.int .u64 (o : Int)] l1)) (HZ : Hid (∀ w', Calls Tryz.prog 107 #[.int .i64 (t - first)] w' fun e w2 => e = .returned (.int .u64 (zn : Int)) ∧ w2 = w'))
    (HV2 : Hid (Makes 106 #[.int .u64 (zn : Int)] l2)) (HV3 : Hid (Makes 106 #[.int .u64 (k.size : Int)] l3)) (HV4 : Hid (Makes 106 #[.int .u64 (v.size : Int)] l4))
    (q1 : l1.length ≤ 10) (q2 : l2.length ≤ 10) (q3 : l3.length ≤ 10) (q4 : l4.length ≤ 10)
    (hwo : IntKind.u64.wrap (o : Int) = (o : Int)) (hwt : IntKind.i64.wrap (t - first) = t - first) (hwk : IntKind.u64.wrap (k.size : Int) = (k.size : Int)) (hwv : IntKind.u64.wrap (v.size : Int) = (v.size : Int))
    (L : List Nat) (HL : Hid (L = 1 :: (l1 ++ (l2 ++ (l3 ++ sb k ++ []))))) :
    Calls Tryz.prog 94 #[.agg #[.bool true, .string k, .bool false, .string v, .int .i64 t, .int .i64 (o : Int)], .int .i64 first] u fun e w' => ∃ x, e = .returned (.tuple #[x, .int .i64 0]) ∧ w'.ownsRow u.heap.size 5 1 x L.length (cv L) ∧ Below u.heap.size u w' := by
  have b1 : bits .or .u8 0 2 = 2 := by decide
  have b2 : bits .or .u8 1 2 = 3 := by decide
  have tok1 : True := trivial
  have tok2 : True := trivial
  go_enter Tryz.func94, Tryz.ntmps94
  go_wp2_with (first
    | (go_at_call 93; refine (HC.out _).mono ?_; rintro e w1 ⟨rfl, hb1⟩; obtain ⟨⟨z0, z1, z2, z3, z4, z5⟩, _⟩ := SE.below (SE.new u ⟨true, k, false, v, t, o⟩) hb1; simp only at z0 z1 z2 z3 z4 z5; have hz1 := World.block_lt_of_cell? _ _ z0; simp only at hz1)
    | (go_at_call 106; have _t := tok1; refine (HV1.out _).mono ?_; clear tok1 _t z0 z1 z2 z3 z4 z5 hz1; rintro e w2 ⟨a1, c1, rfl, R1, n1, hb2⟩; have ow2 := owns_le (lit_own w1 1 hb2) hb1.size; have hb12 := (hb1.alloc hb1.size (.cells #[.int .u8 1] 5)).trans (hb2.mono (Nat.le_trans hb1.size (below_box _).size)); clear hb1 hb2)
    | (at_builtin; have _t := tok2; refine wpList_append_row (by rfl) _ _ rfl _ _ _ _ _ rfl ow2 hb12 hb12.size a1 c1 l1 rfl R1 n1 (by omega) ?_; clear tok2 _t; intro v3 w3 own3 hb3; obtain ⟨⟨z0, z1, z2, z3, z4, z5⟩, _⟩ := SE.below (SE.new u ⟨true, k, false, v, t, o⟩) hb3; simp only at z0 z1 z2 z3 z4 z5; have hz1 := World.block_lt_of_cell? _ _ z0; simp only at hz1; clear ow2 R1)
    | (go_at_call 107; refine (HZ.out _).mono ?_; rintro e w4 ⟨rfl, hw⟩; subst w4)
    | (go_at_call 106; refine (HV2.out _).mono ?_; clear z0 z1 z2 z3 z4 z5 hz1; rintro e w5 ⟨a2, c2, rfl, R2, n2, hb5⟩; have ow5 := own_on own3 hb5; have hb35 := hb3.trans (hb5.mono hb3.size))
    | (at_builtin; refine wpList_append_row (by rfl) _ _ rfl _ _ _ _ _ rfl ow5 hb35 hb35.size a2 c2 l2 rfl R2 n2 (by omega) ?_; intro v6 w6 own6 hb6; obtain ⟨⟨z0, z1, z2, z3, z4, z5⟩, _⟩ := SE.below (SE.new u ⟨true, k, false, v, t, o⟩) hb6; simp only at z0 z1 z2 z3 z4 z5; have hz1 := World.block_lt_of_cell? _ _ z0; simp only at hz1; clear ow5 R2))
  clear z0 z1 z2 z3 z4 z5 hz1
  refine wp_region_lat (fun y => Below (u.alloc (.cells #[.bool true, .string k, .bool false, .string v, .int .i64 t, .int .i64 (o : Int)] 84)).heap.size (u.alloc (.cells #[.bool true, .string k, .bool false, .string v, .int .i64 t, .int .i64 (o : Int)] 84)) y) 10 (by kernel_rfl) (hb6.drew) (fun hHeld => ?_)
  refine lat_take 0 (v := ?_) rfl (by kernel_rfl) (by kernel_rfl) (by kernel_rfl) (by kernel_rfl) (fun _ _ _ h => h) (by rfl) ?_ (by assumption) ?_
  rotate_left
  · (intro w hSw; obtain ⟨⟨z0, z1, z2, z3, z4, z5⟩, _⟩ := SE.below (SE.new u ⟨true, k, false, v, t, o⟩) hSw; simp only at z0 z1 z2 z3 z4 z5; go_simp <;> with_reducible rfl)
  try simp only [Act.put, List.setIfInBounds_toArray, List.set_cons_zero, List.set_cons_succ]
  refine lat_take 1 (v := ?_) rfl (by kernel_rfl) (by kernel_rfl) (by kernel_rfl) (by kernel_rfl) (fun _ _ _ h => h) (by rfl) ?_ (by assumption) ?_
  rotate_left
  · (intro w hSw; obtain ⟨⟨z0, z1, z2, z3, z4, z5⟩, _⟩ := SE.below (SE.new u ⟨true, k, false, v, t, o⟩) hSw; simp only at z0 z1 z2 z3 z4 z5; go_simp <;> with_reducible rfl)
  try simp only [Act.put, List.setIfInBounds_toArray, List.set_cons_zero, List.set_cons_succ]
  refine lat_take 2 (v := ?_) rfl (by kernel_rfl) (by kernel_rfl) (by kernel_rfl) (by kernel_rfl) (fun _ _ _ h => h) (by rfl) ?_ (by assumption) ?_
  rotate_left
  · (intro w hSw; obtain ⟨⟨z0, z1, z2, z3, z4, z5⟩, _⟩ := SE.below (SE.new u ⟨true, k, false, v, t, o⟩) hSw; simp only at z0 z1 z2 z3 z4 z5; go_simp <;> with_reducible rfl)
  try simp only [Act.put, List.setIfInBounds_toArray, List.set_cons_zero, List.set_cons_succ]
  refine lat_take 3 (v := ?_) rfl (by kernel_rfl) (by kernel_rfl) (by kernel_rfl) (by kernel_rfl) (fun _ _ _ h => h) (by rfl) ?_ (by assumption) ?_
  rotate_left
  · (intro w hSw; obtain ⟨⟨z0, z1, z2, z3, z4, z5⟩, _⟩ := SE.below (SE.new u ⟨true, k, false, v, t, o⟩) hSw; simp only at z0 z1 z2 z3 z4 z5; go_simp <;> with_reducible rfl)
  try simp only [Act.put, List.setIfInBounds_toArray, List.set_cons_zero, List.set_cons_succ]
  refine lat_take 4 (v := ?_) rfl (by kernel_rfl) (by kernel_rfl) (by kernel_rfl) (by kernel_rfl) (fun _ _ _ h => h) (by rfl) ?_ (by assumption) ?_
  rotate_left
  · (intro w hSw; obtain ⟨⟨z0, z1, z2, z3, z4, z5⟩, _⟩ := SE.below (SE.new u ⟨true, k, false, v, t, o⟩) hSw; simp only at z0 z1 z2 z3 z4 z5; go_simp <;> with_reducible rfl)
  try simp only [Act.put, List.setIfInBounds_toArray, List.set_cons_zero, List.set_cons_succ]
  refine lat_take 7 (v := ?_) rfl (by kernel_rfl) (by kernel_rfl) (by kernel_rfl) (by kernel_rfl) (fun _ _ _ h => h) (by rfl) ?_ (by assumption) ?_
  rotate_left
  · (intro w hSw; obtain ⟨⟨z0, z1, z2, z3, z4, z5⟩, _⟩ := SE.below (SE.new u ⟨true, k, false, v, t, o⟩) hSw; simp only at z0 z1 z2 z3 z4 z5; go_simp <;> with_reducible rfl)
  try simp only [Act.put, List.setIfInBounds_toArray, List.set_cons_zero, List.set_cons_succ]
  refine lat_take 8 (v := ?_) rfl (by kernel_rfl) (by kernel_rfl) (by kernel_rfl) (by kernel_rfl) (fun _ _ _ h => h) (by rfl) ?_ (by assumption) ?_
  rotate_left
  · (intro w hSw; obtain ⟨⟨z0, z1, z2, z3, z4, z5⟩, _⟩ := SE.below (SE.new u ⟨true, k, false, v, t, o⟩) hSw; simp only at z0 z1 z2 z3 z4 z5; go_simp <;> with_reducible rfl)
  try simp only [Act.put, List.setIfInBounds_toArray, List.set_cons_zero, List.set_cons_succ]
  refine lat_one 5 rfl (by kernel_rfl) (by decide) (by rfl) (fun K hK => ?_)
  go_simp
  refine Calls.mono (HV3.out _) ?_
  rintro e xK ⟨aK, cK, rfl, RK, nK, hxK⟩
  try dsimp only
  have hyK := hHeld.trans (hxK.mono hHeld.size)
  have owK := own_on (owns_drew own6) hxK
  refine hK.out _ _ hyK (fun hH2 => ?_)
  clear hK hHeld
  try simp only [Act.put, List.setIfInBounds_toArray, List.set_cons_zero, List.set_cons_succ]
  refine lat_one 6 rfl (by kernel_rfl) (by decide) (by rfl) (fun K hK => ?_)
  refine wp_append_row _ _ rfl _ _ _ _ _ rfl owK hH2 hH2.size aK cK l3 rfl RK nK (by omega) ?_
  intro vK yK oxK hzK
  refine hK.out _ _ hzK (fun hH3 => ?_)
  clear hK hH2
  try simp only [Act.put, List.setIfInBounds_toArray, List.set_cons_zero, List.set_cons_succ]
  refine lat_one 9 rfl (by kernel_rfl) (by decide) (by rfl) (fun K hK => ?_)
  refine wp_append_text _ _ rfl _ _ _ _ _ rfl oxK hH3 hH3.size k rfl (by omega) ?_
  intro vvK yyK ownK hbK
  refine hK.out _ _ hbK (fun hH4 => ?_)
  clear hK hH3 hH4 oxK owK
  try simp only [Act.put, List.setIfInBounds_toArray, List.set_cons_zero, List.set_cons_succ]
  refine lat_last 10 rfl (by kernel_rfl) (by decide) (by kernel_rfl) (by rfl) (fun K hK => ?_)
  go_simp
  refine hK.out _ _ ?_
  clear hK
  try simp only [Act.put, List.setIfInBounds_toArray, List.set_cons_zero, List.set_cons_succ]
  obtain ⟨⟨z0, z1, z2, z3, z4, z5⟩, _⟩ := SE.below (SE.new u ⟨true, k, false, v, t, o⟩) hbK
  simp only at z0 z1 z2 z3 z4 z5
  have hz1 := World.block_lt_of_cell? _ _ z0
  simp only at hz1
  go_wp2_with fail
  go_ret2
  have hbb : Below u.heap.size u _ := (below_box (.cells #[.bool true, .string k, .bool false, .string v, .int .i64 t, .int .i64 (o : Int)] 84)).trans (hbK.mono (by simp))
  refine ⟨_, rfl, ?_, hbb⟩
  have := owns_le (B' := u.heap.size) ownK (by simp)
  exact owns_list this (by rw [HL.out]; simp [cv])
set_option maxRecDepth 100000 in
set_option maxHeartbeats 1000000 in
theorem renc_tt (k v : ByteArray) (t : Int) (o : Nat) (first : Int) (u : World) (k1 : k.size ≤ 2000) (v1 : v.size ≤ 2000) (f0 : 0 ≤ first) (f1 : first ≤ 1125899906842624) (zn : Nat) (l1 l2 l3 l4 : List Nat)
    (HC : Hid (∀ w', Calls Tryz.prog 93 #[.agg #[.bool true, .string k, .bool true, .string v, .int .i64 t, .int .i64 (o : Int)]] w' fun e w2 => e = .returned (.int .i64 0) ∧ Below w'.heap.size w' w2))
    (HV1 : Hid (Makes 106 #[.int .u64 (o : Int)] l1)) (HZ : Hid (∀ w', Calls Tryz.prog 107 #[.int .i64 (t - first)] w' fun e w2 => e = .returned (.int .u64 (zn : Int)) ∧ w2 = w'))
    (HV2 : Hid (Makes 106 #[.int .u64 (zn : Int)] l2)) (HV3 : Hid (Makes 106 #[.int .u64 (k.size : Int)] l3)) (HV4 : Hid (Makes 106 #[.int .u64 (v.size : Int)] l4))
    (q1 : l1.length ≤ 10) (q2 : l2.length ≤ 10) (q3 : l3.length ≤ 10) (q4 : l4.length ≤ 10)
    (hwo : IntKind.u64.wrap (o : Int) = (o : Int)) (hwt : IntKind.i64.wrap (t - first) = t - first) (hwk : IntKind.u64.wrap (k.size : Int) = (k.size : Int)) (hwv : IntKind.u64.wrap (v.size : Int) = (v.size : Int))
    (L : List Nat) (HL : Hid (L = 3 :: (l1 ++ (l2 ++ (l3 ++ sb k ++ (l4 ++ sb v)))))) :
    Calls Tryz.prog 94 #[.agg #[.bool true, .string k, .bool true, .string v, .int .i64 t, .int .i64 (o : Int)], .int .i64 first] u fun e w' => ∃ x, e = .returned (.tuple #[x, .int .i64 0]) ∧ w'.ownsRow u.heap.size 5 1 x L.length (cv L) ∧ Below u.heap.size u w' := by
  have b1 : bits .or .u8 0 2 = 2 := by decide
  have b2 : bits .or .u8 1 2 = 3 := by decide
  have tok1 : True := trivial
  have tok2 : True := trivial
  go_enter Tryz.func94, Tryz.ntmps94
  go_wp2_with (first
    | (go_at_call 93; refine (HC.out _).mono ?_; rintro e w1 ⟨rfl, hb1⟩; obtain ⟨⟨z0, z1, z2, z3, z4, z5⟩, _⟩ := SE.below (SE.new u ⟨true, k, true, v, t, o⟩) hb1; simp only at z0 z1 z2 z3 z4 z5; have hz1 := World.block_lt_of_cell? _ _ z0; simp only at hz1)
    | (go_at_call 106; have _t := tok1; refine (HV1.out _).mono ?_; clear tok1 _t z0 z1 z2 z3 z4 z5 hz1; rintro e w2 ⟨a1, c1, rfl, R1, n1, hb2⟩; have ow2 := owns_le (lit_own w1 3 hb2) hb1.size; have hb12 := (hb1.alloc hb1.size (.cells #[.int .u8 3] 5)).trans (hb2.mono (Nat.le_trans hb1.size (below_box _).size)); clear hb1 hb2)
    | (at_builtin; have _t := tok2; refine wpList_append_row (by rfl) _ _ rfl _ _ _ _ _ rfl ow2 hb12 hb12.size a1 c1 l1 rfl R1 n1 (by omega) ?_; clear tok2 _t; intro v3 w3 own3 hb3; obtain ⟨⟨z0, z1, z2, z3, z4, z5⟩, _⟩ := SE.below (SE.new u ⟨true, k, true, v, t, o⟩) hb3; simp only at z0 z1 z2 z3 z4 z5; have hz1 := World.block_lt_of_cell? _ _ z0; simp only at hz1; clear ow2 R1)
    | (go_at_call 107; refine (HZ.out _).mono ?_; rintro e w4 ⟨rfl, hw⟩; subst w4)
    | (go_at_call 106; refine (HV2.out _).mono ?_; clear z0 z1 z2 z3 z4 z5 hz1; rintro e w5 ⟨a2, c2, rfl, R2, n2, hb5⟩; have ow5 := own_on own3 hb5; have hb35 := hb3.trans (hb5.mono hb3.size))
    | (at_builtin; refine wpList_append_row (by rfl) _ _ rfl _ _ _ _ _ rfl ow5 hb35 hb35.size a2 c2 l2 rfl R2 n2 (by omega) ?_; intro v6 w6 own6 hb6; obtain ⟨⟨z0, z1, z2, z3, z4, z5⟩, _⟩ := SE.below (SE.new u ⟨true, k, true, v, t, o⟩) hb6; simp only at z0 z1 z2 z3 z4 z5; have hz1 := World.block_lt_of_cell? _ _ z0; simp only at hz1; clear ow5 R2))
  clear z0 z1 z2 z3 z4 z5 hz1
  refine wp_region_lat (fun y => Below (u.alloc (.cells #[.bool true, .string k, .bool true, .string v, .int .i64 t, .int .i64 (o : Int)] 84)).heap.size (u.alloc (.cells #[.bool true, .string k, .bool true, .string v, .int .i64 t, .int .i64 (o : Int)] 84)) y) 10 (by kernel_rfl) (hb6.drew) (fun hHeld => ?_)
  refine lat_take 0 (v := ?_) rfl (by kernel_rfl) (by kernel_rfl) (by kernel_rfl) (by kernel_rfl) (fun _ _ _ h => h) (by rfl) ?_ (by assumption) ?_
  rotate_left
  · (intro w hSw; obtain ⟨⟨z0, z1, z2, z3, z4, z5⟩, _⟩ := SE.below (SE.new u ⟨true, k, true, v, t, o⟩) hSw; simp only at z0 z1 z2 z3 z4 z5; go_simp <;> with_reducible rfl)
  try simp only [Act.put, List.setIfInBounds_toArray, List.set_cons_zero, List.set_cons_succ]
  refine lat_take 1 (v := ?_) rfl (by kernel_rfl) (by kernel_rfl) (by kernel_rfl) (by kernel_rfl) (fun _ _ _ h => h) (by rfl) ?_ (by assumption) ?_
  rotate_left
  · (intro w hSw; obtain ⟨⟨z0, z1, z2, z3, z4, z5⟩, _⟩ := SE.below (SE.new u ⟨true, k, true, v, t, o⟩) hSw; simp only at z0 z1 z2 z3 z4 z5; go_simp <;> with_reducible rfl)
  try simp only [Act.put, List.setIfInBounds_toArray, List.set_cons_zero, List.set_cons_succ]
  refine lat_take 2 (v := ?_) rfl (by kernel_rfl) (by kernel_rfl) (by kernel_rfl) (by kernel_rfl) (fun _ _ _ h => h) (by rfl) ?_ (by assumption) ?_
  rotate_left
  · (intro w hSw; obtain ⟨⟨z0, z1, z2, z3, z4, z5⟩, _⟩ := SE.below (SE.new u ⟨true, k, true, v, t, o⟩) hSw; simp only at z0 z1 z2 z3 z4 z5; go_simp <;> with_reducible rfl)
  try simp only [Act.put, List.setIfInBounds_toArray, List.set_cons_zero, List.set_cons_succ]
  refine lat_take 3 (v := ?_) rfl (by kernel_rfl) (by kernel_rfl) (by kernel_rfl) (by kernel_rfl) (fun _ _ _ h => h) (by rfl) ?_ (by assumption) ?_
  rotate_left
  · (intro w hSw; obtain ⟨⟨z0, z1, z2, z3, z4, z5⟩, _⟩ := SE.below (SE.new u ⟨true, k, true, v, t, o⟩) hSw; simp only at z0 z1 z2 z3 z4 z5; go_simp <;> with_reducible rfl)
  try simp only [Act.put, List.setIfInBounds_toArray, List.set_cons_zero, List.set_cons_succ]
  refine lat_take 4 (v := ?_) rfl (by kernel_rfl) (by kernel_rfl) (by kernel_rfl) (by kernel_rfl) (fun _ _ _ h => h) (by rfl) ?_ (by assumption) ?_
  rotate_left
  · (intro w hSw; obtain ⟨⟨z0, z1, z2, z3, z4, z5⟩, _⟩ := SE.below (SE.new u ⟨true, k, true, v, t, o⟩) hSw; simp only at z0 z1 z2 z3 z4 z5; go_simp <;> with_reducible rfl)
  try simp only [Act.put, List.setIfInBounds_toArray, List.set_cons_zero, List.set_cons_succ]
  refine lat_take 7 (v := ?_) rfl (by kernel_rfl) (by kernel_rfl) (by kernel_rfl) (by kernel_rfl) (fun _ _ _ h => h) (by rfl) ?_ (by assumption) ?_
  rotate_left
  · (intro w hSw; obtain ⟨⟨z0, z1, z2, z3, z4, z5⟩, _⟩ := SE.below (SE.new u ⟨true, k, true, v, t, o⟩) hSw; simp only at z0 z1 z2 z3 z4 z5; go_simp <;> with_reducible rfl)
  try simp only [Act.put, List.setIfInBounds_toArray, List.set_cons_zero, List.set_cons_succ]
  refine lat_take 8 (v := ?_) rfl (by kernel_rfl) (by kernel_rfl) (by kernel_rfl) (by kernel_rfl) (fun _ _ _ h => h) (by rfl) ?_ (by assumption) ?_
  rotate_left
  · (intro w hSw; obtain ⟨⟨z0, z1, z2, z3, z4, z5⟩, _⟩ := SE.below (SE.new u ⟨true, k, true, v, t, o⟩) hSw; simp only at z0 z1 z2 z3 z4 z5; go_simp <;> with_reducible rfl)
  try simp only [Act.put, List.setIfInBounds_toArray, List.set_cons_zero, List.set_cons_succ]
  refine lat_one 5 rfl (by kernel_rfl) (by decide) (by rfl) (fun K hK => ?_)
  go_simp
  refine Calls.mono (HV3.out _) ?_
  rintro e xK ⟨aK, cK, rfl, RK, nK, hxK⟩
  try dsimp only
  have hyK := hHeld.trans (hxK.mono hHeld.size)
  have owK := own_on (owns_drew own6) hxK
  refine hK.out _ _ hyK (fun hH2 => ?_)
  clear hK hHeld
  try simp only [Act.put, List.setIfInBounds_toArray, List.set_cons_zero, List.set_cons_succ]
  refine lat_one 6 rfl (by kernel_rfl) (by decide) (by rfl) (fun K hK => ?_)
  refine wp_append_row _ _ rfl _ _ _ _ _ rfl owK hH2 hH2.size aK cK l3 rfl RK nK (by omega) ?_
  intro vK yK oxK hzK
  refine hK.out _ _ hzK (fun hH3 => ?_)
  clear hK hH2
  try simp only [Act.put, List.setIfInBounds_toArray, List.set_cons_zero, List.set_cons_succ]
  refine lat_one 9 rfl (by kernel_rfl) (by decide) (by rfl) (fun K hK => ?_)
  refine wp_append_text _ _ rfl _ _ _ _ _ rfl oxK hH3 hH3.size k rfl (by omega) ?_
  intro vvK yyK ownK hbK
  refine hK.out _ _ hbK (fun hH4 => ?_)
  clear hK hH3 hH4 oxK owK
  try simp only [Act.put, List.setIfInBounds_toArray, List.set_cons_zero, List.set_cons_succ]
  refine lat_last 10 rfl (by kernel_rfl) (by decide) (by kernel_rfl) (by rfl) (fun K hK => ?_)
  go_simp
  refine hK.out _ _ ?_
  clear hK
  try simp only [Act.put, List.setIfInBounds_toArray, List.set_cons_zero, List.set_cons_succ]
  obtain ⟨⟨z0, z1, z2, z3, z4, z5⟩, _⟩ := SE.below (SE.new u ⟨true, k, true, v, t, o⟩) hbK
  simp only at z0 z1 z2 z3 z4 z5
  have hz1 := World.block_lt_of_cell? _ _ z0
  simp only at hz1
  go_wp2_with fail
  clear z0 z1 z2 z3 z4 z5 hz1
  refine wp_region_lat (fun y => Below (u.alloc (.cells #[.bool true, .string k, .bool true, .string v, .int .i64 t, .int .i64 (o : Int)] 84)).heap.size (u.alloc (.cells #[.bool true, .string k, .bool true, .string v, .int .i64 t, .int .i64 (o : Int)] 84)) y) 10 (by kernel_rfl) (hbK.drew) (fun hHeld => ?_)
  refine lat_take 0 (v := ?_) rfl (by kernel_rfl) (by kernel_rfl) (by kernel_rfl) (by kernel_rfl) (fun _ _ _ h => h) (by rfl) ?_ (by assumption) ?_
  rotate_left
  · (intro w hSw; obtain ⟨⟨z0, z1, z2, z3, z4, z5⟩, _⟩ := SE.below (SE.new u ⟨true, k, true, v, t, o⟩) hSw; simp only at z0 z1 z2 z3 z4 z5; go_simp <;> with_reducible rfl)
  try simp only [Act.put, List.setIfInBounds_toArray, List.set_cons_zero, List.set_cons_succ]
  refine lat_take 1 (v := ?_) rfl (by kernel_rfl) (by kernel_rfl) (by kernel_rfl) (by kernel_rfl) (fun _ _ _ h => h) (by rfl) ?_ (by assumption) ?_
  rotate_left
  · (intro w hSw; obtain ⟨⟨z0, z1, z2, z3, z4, z5⟩, _⟩ := SE.below (SE.new u ⟨true, k, true, v, t, o⟩) hSw; simp only at z0 z1 z2 z3 z4 z5; go_simp <;> with_reducible rfl)
  try simp only [Act.put, List.setIfInBounds_toArray, List.set_cons_zero, List.set_cons_succ]
  refine lat_take 2 (v := ?_) rfl (by kernel_rfl) (by kernel_rfl) (by kernel_rfl) (by kernel_rfl) (fun _ _ _ h => h) (by rfl) ?_ (by assumption) ?_
  rotate_left
  · (intro w hSw; obtain ⟨⟨z0, z1, z2, z3, z4, z5⟩, _⟩ := SE.below (SE.new u ⟨true, k, true, v, t, o⟩) hSw; simp only at z0 z1 z2 z3 z4 z5; go_simp <;> with_reducible rfl)
  try simp only [Act.put, List.setIfInBounds_toArray, List.set_cons_zero, List.set_cons_succ]
  refine lat_take 3 (v := ?_) rfl (by kernel_rfl) (by kernel_rfl) (by kernel_rfl) (by kernel_rfl) (fun _ _ _ h => h) (by rfl) ?_ (by assumption) ?_
  rotate_left
  · (intro w hSw; obtain ⟨⟨z0, z1, z2, z3, z4, z5⟩, _⟩ := SE.below (SE.new u ⟨true, k, true, v, t, o⟩) hSw; simp only at z0 z1 z2 z3 z4 z5; go_simp <;> with_reducible rfl)
  try simp only [Act.put, List.setIfInBounds_toArray, List.set_cons_zero, List.set_cons_succ]
  refine lat_take 4 (v := ?_) rfl (by kernel_rfl) (by kernel_rfl) (by kernel_rfl) (by kernel_rfl) (fun _ _ _ h => h) (by rfl) ?_ (by assumption) ?_
  rotate_left
  · (intro w hSw; obtain ⟨⟨z0, z1, z2, z3, z4, z5⟩, _⟩ := SE.below (SE.new u ⟨true, k, true, v, t, o⟩) hSw; simp only at z0 z1 z2 z3 z4 z5; go_simp <;> with_reducible rfl)
  try simp only [Act.put, List.setIfInBounds_toArray, List.set_cons_zero, List.set_cons_succ]
  refine lat_take 7 (v := ?_) rfl (by kernel_rfl) (by kernel_rfl) (by kernel_rfl) (by kernel_rfl) (fun _ _ _ h => h) (by rfl) ?_ (by assumption) ?_
  rotate_left
  · (intro w hSw; obtain ⟨⟨z0, z1, z2, z3, z4, z5⟩, _⟩ := SE.below (SE.new u ⟨true, k, true, v, t, o⟩) hSw; simp only at z0 z1 z2 z3 z4 z5; go_simp <;> with_reducible rfl)
  try simp only [Act.put, List.setIfInBounds_toArray, List.set_cons_zero, List.set_cons_succ]
  refine lat_take 8 (v := ?_) rfl (by kernel_rfl) (by kernel_rfl) (by kernel_rfl) (by kernel_rfl) (fun _ _ _ h => h) (by rfl) ?_ (by assumption) ?_
  rotate_left
  · (intro w hSw; obtain ⟨⟨z0, z1, z2, z3, z4, z5⟩, _⟩ := SE.below (SE.new u ⟨true, k, true, v, t, o⟩) hSw; simp only at z0 z1 z2 z3 z4 z5; go_simp <;> with_reducible rfl)
  try simp only [Act.put, List.setIfInBounds_toArray, List.set_cons_zero, List.set_cons_succ]
  refine lat_one 5 rfl (by kernel_rfl) (by decide) (by rfl) (fun K hK => ?_)
  go_simp
  refine Calls.mono (HV4.out _) ?_
  rintro e xV ⟨aV, cV, rfl, RV, nV, hxV⟩
  try dsimp only
  have hyV := hHeld.trans (hxV.mono hHeld.size)
  have owV := own_on (owns_drew ownK) hxV
  refine hK.out _ _ hyV (fun hH2 => ?_)
  clear hK hHeld
  try simp only [Act.put, List.setIfInBounds_toArray, List.set_cons_zero, List.set_cons_succ]
  refine lat_one 6 rfl (by kernel_rfl) (by decide) (by rfl) (fun K hK => ?_)
  refine wp_append_row _ _ rfl _ _ _ _ _ rfl owV hH2 hH2.size aV cV l4 rfl RV nV (by omega) ?_
  intro vV yV oxV hzV
  refine hK.out _ _ hzV (fun hH3 => ?_)
  clear hK hH2
  try simp only [Act.put, List.setIfInBounds_toArray, List.set_cons_zero, List.set_cons_succ]
  refine lat_one 9 rfl (by kernel_rfl) (by decide) (by rfl) (fun K hK => ?_)
  refine wp_append_text _ _ rfl _ _ _ _ _ rfl oxV hH3 hH3.size v rfl (by omega) ?_
  intro vvV yyV ownV hbV
  refine hK.out _ _ hbV (fun hH4 => ?_)
  clear hK hH3 hH4 oxV owV
  try simp only [Act.put, List.setIfInBounds_toArray, List.set_cons_zero, List.set_cons_succ]
  refine lat_last 10 rfl (by kernel_rfl) (by decide) (by kernel_rfl) (by rfl) (fun K hK => ?_)
  go_simp
  refine hK.out _ _ ?_
  clear hK
  try simp only [Act.put, List.setIfInBounds_toArray, List.set_cons_zero, List.set_cons_succ]
  go_wp2_with fail
  go_ret2
  have hbb : Below u.heap.size u _ := (below_box (.cells #[.bool true, .string k, .bool true, .string v, .int .i64 t, .int .i64 (o : Int)] 84)).trans (hbV.mono (by simp))
  refine ⟨_, rfl, ?_, hbb⟩
  have := owns_le (B' := u.heap.size) ownV (by simp)
  exact owns_list this (by rw [HL.out]; simp [cv])
end Go.Proofs.YtaooidckmepdeaaGreatDoor
namespace Go.Proofs.YtaooidckmepdeaaGreatDoor
set_option linter.unusedSimpArgs false
set_option linter.unusedVariables false
open Go.RowKit
theorem rvarint_makes (V : Nat) (h : V ≤ 18446744073709551615) : Makes 106 #[.int .u64 V] (groups V) := fun w' => by
  refine (rvarint_any V w' h).mono ?_
  rintro e w2 ⟨v, rfl, hown, hb⟩
  obtain ⟨a, c, rfl, hr, hn⟩ := owns_sl hown (groups_lt V h)
  exact ⟨a, c, rfl, hr, hn, hb⟩
set_option maxRecDepth 100000 in
theorem rencode_any (r : Rc) (first : Int) (w : World) :
    Calls Tryz.prog 94 #[.agg r.cells, .int .i64 first] w fun e w' => ∃ v, e = .returned (.tuple #[v, .int .i64 (encE r first)]) ∧ w'.ownsRow w.heap.size 5 1 v (encR r first).length (cv (encR r first)) ∧ Below w.heap.size w w' := by
  have HC : Hid _ := rcheck_any r
  by_cases hc : chk r = 0
  · rw [hc] at HC
    by_cases ht : timeB first = true
    · have hE : encE r first = 0 := by simp [encE, hc, ht]
      have hR : encR r first = encL r first := by simp [encR, hE]
      obtain ⟨t0, t1, o0, o1, k1, v1, _, _⟩ := chk_ok hc
      obtain ⟨f0, f1⟩ := (time_iff first).1 ht
      rw [hE, hR]
      obtain ⟨on, hon⟩ := Int.eq_ofNat_of_zero_le o0
      have hz := zig_bd (r.t - first) (by omega) (by omega)
      obtain ⟨zn, hzn⟩ := Int.eq_ofNat_of_zero_le hz.1
      have HZ : Hid _ := fun w' => rzig_any (r.t - first) w' (by omega) (by omega)
      have HL : Hid (encL r first = headN r :: (groups on ++ (groups zn ++ (textL r.hk r.k ++ textL r.hv r.v)))) := by
        show _ = _
        unfold encL
        rw [hon, hzn]
        rfl
      generalize encL r first = L at *
      obtain ⟨hk, k, hv, v, t, o⟩ := r
      simp only at *
      subst hon
      rw [hzn] at HZ
      have w1 : IntKind.u64.wrap (on : Int) = (on : Int) := by rw [IntKind.wrap_u64]; omega
      have w2 : IntKind.i64.wrap (t - first) = t - first := by rw [IntKind.wrap_i64]; omega
      have w3 : IntKind.u64.wrap (k.size : Int) = (k.size : Int) := by rw [IntKind.wrap_u64]; omega
      have w4 : IntKind.u64.wrap (v.size : Int) = (v.size : Int) := by rw [IntKind.wrap_u64]; omega
      cases hk <;> cases hv
      · exact renc_ff k v t on first w k1 v1 f0 f1 zn _ _ _ _ HC (rvarint_makes on (by omega)) HZ (rvarint_makes zn (by omega)) (rvarint_makes k.size (by omega)) (rvarint_makes v.size (by omega)) (groups_len _).2 (groups_len _).2 (groups_len _).2 (groups_len _).2 w1 w2 w3 w4 L (by rw [HL.out]; rfl)
      · exact renc_ft k v t on first w k1 v1 f0 f1 zn _ _ _ _ HC (rvarint_makes on (by omega)) HZ (rvarint_makes zn (by omega)) (rvarint_makes k.size (by omega)) (rvarint_makes v.size (by omega)) (groups_len _).2 (groups_len _).2 (groups_len _).2 (groups_len _).2 w1 w2 w3 w4 L (by rw [HL.out]; rfl)
      · exact renc_tf k v t on first w k1 v1 f0 f1 zn _ _ _ _ HC (rvarint_makes on (by omega)) HZ (rvarint_makes zn (by omega)) (rvarint_makes k.size (by omega)) (rvarint_makes v.size (by omega)) (groups_len _).2 (groups_len _).2 (groups_len _).2 (groups_len _).2 w1 w2 w3 w4 L (by rw [HL.out]; rfl)
      · exact renc_tt k v t on first w k1 v1 f0 f1 zn _ _ _ _ HC (rvarint_makes on (by omega)) HZ (rvarint_makes zn (by omega)) (rvarint_makes k.size (by omega)) (rvarint_makes v.size (by omega)) (groups_len _).2 (groups_len _).2 (groups_len _).2 (groups_len _).2 w1 w2 w3 w4 L (by rw [HL.out]; rfl)
    · have ht' : timeB first = false := by simpa using ht
      have hE : encE r first = 1 := by simp [encE, hc, ht']
      have hR : encR r first = [] := by simp [encR, hE]
      rw [hE, hR]
      have hq : first < 0 ∨ 1125899906842624 < first := by
        have : ¬ (0 ≤ first ∧ first ≤ 1125899906842624) := fun c => ht ((time_iff first).2 c)
        omega
      obtain ⟨hk, k, hv, v, t, o⟩ := r
      simp only [Rc.cells] at HC ⊢
      clear hE hR hc ht ht'
      rcases hq with hq | hq
      · go_enter Tryz.func94, Tryz.ntmps94
        go_wp2_with (go_at_call 93; refine (HC.out _).mono ?_; rintro e w1 ⟨rfl, hb1⟩)
        go_ret2
        exact ⟨_, rfl, World.ownsRow_nil _ _ _ _, (below_box _).trans (hb1.mono (by simp))⟩
      · have hq2 : ¬ first < 0 := by omega
        go_enter Tryz.func94, Tryz.ntmps94
        go_wp2_with (go_at_call 93; refine (HC.out _).mono ?_; rintro e w1 ⟨rfl, hb1⟩)
        go_ret2
        exact ⟨_, rfl, World.ownsRow_nil _ _ _ _, (below_box _).trans (hb1.mono (by simp))⟩
  · have hE : encE r first = chk r := by simp [encE, hc]
    have hR : encR r first = [] := by simp [encR, hE, hc]
    rw [hE, hR]
    have hne : (chk r != 0) = true := by simpa using hc
    obtain ⟨hk, k, hv, v, t, o⟩ := r
    generalize chk ⟨hk, k, hv, v, t, o⟩ = c at *
    simp only [Rc.cells] at HC ⊢
    clear hE hR hc
    go_enter Tryz.func94, Tryz.ntmps94
    go_wp2_with (go_at_call 93; refine (HC.out _).mono ?_; rintro e w1 ⟨rfl, hb1⟩)
    go_ret2
    exact ⟨_, rfl, World.ownsRow_nil _ _ _ _, (below_box _).trans (hb1.mono (by simp))⟩
end Go.Proofs.YtaooidckmepdeaaGreatDoor
namespace Go.Proofs.YtaooidckmepdeaaGreatDoor
set_option linter.unusedSimpArgs false
set_option linter.unusedVariables false
open Go.RowKit
theorem and1 (c : Nat) (h : c < 4294967296) : bits .and .u32 (c : Int) 1 = ((c % 2 : Nat) : Int) := by
  have := u32_and_nat c 1 h (by decide)
  rw [nat_mask1] at this
  exact this
theorem sh_odd (c : Nat) (h : c < 4294967296) (h1 : c % 2 = 1) : bits .xor .u32 ((c : Int) / 2) 2197175160 = ((P.sh c : Nat) : Int) := by
  have := u32_xor_nat (c / 2) 2197175160 (by omega) (by decide)
  rw [P.sh, if_pos h1, ← this]
  rfl
theorem sh_ev (c : Nat) (h1 : c % 2 = 0) : (c : Int) / 2 = ((P.sh c : Nat) : Int) := by
  rw [P.sh, if_neg (by omega)]
  rfl
theorem step_any (c x : Nat) (w : World) (hc : c < 4294967296) (hx : x < 256) :
    Calls Tryz.prog 108 #[.int .u32 c, .int .u8 x] w fun e w' => e = .returned (.int .u32 ((P.stp c x : Nat) : Int)) ∧ w' = w := by
  obtain ⟨out, HO⟩ : ∃ out, Hid (P.stp c x = out) := ⟨_, rfl⟩
  rw [HO.out]
  have hX := xor32 c x hc (by omega)
  have hXl := xor_lt32 hc (show x < 4294967296 by omega)
  have HS : Hid (P.shN 8 (c ^^^ x) = out) := HO
  generalize c ^^^ x = d at *
  clear HO
  go_enter Tryz.func108, Tryz.ntmps108
  go_wp2
  go_loop [0, 5] (fun v i => ∃ (k C : Nat), k ≤ 8 ∧ v = .int .u32 C ∧ i = .int .i64 k ∧ C < 4294967296 ∧ P.shN (8 - k) C = out) (fun _ i => 8 - (intOf i).toNat)
  case atStart => exact ⟨0, d, by omega, rfl, rfl, hXl, HS.out⟩
  case round =>
    obtain ⟨k, C, hk, rfl, rfl, hC, hs⟩ := hrel
    by_cases hlt : k < 8
    · have HN : Hid (P.shN (8 - (k + 1)) (P.sh C) = out) := by
        show _ = _
        rw [← hs, show 8 - k = (8 - (k + 1)) + 1 by omega]
        rfl
      have hl2 := P.sh_lt C hC
      have h1 := and1 C hC
      have hkI : (k : Int) < 8 := by omega
      clear hs
      rcases Nat.mod_two_eq_zero_or_one C with hp | hp
      · have hv := sh_ev C hp
        rw [hp] at h1
        generalize P.sh C = D at *
        go_wp2
        exact ⟨⟨k + 1, D, by omega, by go_num, by go_num, hl2, HN.out⟩, by simp [intOf]; omega⟩
      · have hv := sh_odd C hC hp
        rw [hp] at h1
        generalize P.sh C = D at *
        go_wp2
        exact ⟨⟨k + 1, D, by omega, by go_num, by go_num, hl2, HN.out⟩, by simp [intOf]; omega⟩
    · obtain rfl : k = 8 := by omega
      have HN : Hid (C = out) := hs
      clear hs
      go_wp2
      go_ret
      exact ⟨retI (by rw [HN.out]), rfl⟩
theorem rmore_any (c : Nat) (a : Option Addr) (cap : Nat) (l : List Nat) (w : World) (hc : c < 4294967296) (hr : Row w a l) (hl : l.length ≤ maxLen) :
    Calls Tryz.prog 95 #[.int .u32 c, .slice a l.length cap] w fun e w' => e = .returned (.int .u32 ((P.more c l : Nat) : Int)) ∧ w' = w := by
  unfold maxLen at hl
  obtain ⟨out, HO⟩ : ∃ out, Hid (P.reg (P.ones ^^^ c) l = out) := ⟨_, rfl⟩
  have HM : Hid (P.more c l = P.ones ^^^ out) := by show _ = _; rw [P.more, HO.out]
  rw [HM.out]
  have ho := ones_xor c hc
  have hol : P.ones ^^^ c < 4294967296 := xor_lt32 (by decide) hc
  generalize P.ones ^^^ c = d at *
  clear HM
  go_enter Tryz.func95, Tryz.ntmps95
  go_wp2
  go_loop [0, 5] (fun v i => ∃ (k C : Nat), k ≤ l.length ∧ v = .int .u32 C ∧ i = .int .i64 k ∧ C < 4294967296 ∧ P.reg C (l.drop k) = out) (fun _ i => l.length - (intOf i).toNat)
  case atStart => exact ⟨0, d, by omega, rfl, rfl, hol, by simpa using HO.out⟩
  case round =>
    obtain ⟨k, C, hk, rfl, rfl, hC, hs⟩ := hrel
    by_cases hlt : k < l.length
    · obtain ⟨b, off, rfl, hcell, hx⟩ := hr k hlt
      rw [reg_drop C l k hlt] at hs
      have hS := P.stp_lt C _ hC hx
      have HS : Hid (P.reg (P.stp C (l.getD k 0)) (l.drop (k + 1)) = out) := hs
      have hltI : (k : Int) < (l.length : Int) := by omega
      clear hs hr
      generalize l.getD k 0 = x at *
      obtain ⟨D, HD⟩ : ∃ D, Hid (P.stp C x = D) := ⟨_, rfl⟩
      rw [HD.out] at HS hS
      go_wp2_with (go_at_call 108; refine (step_any _ _ _ hC hx).mono ?_; rintro e w' ⟨rfl, rfl⟩; rw [HD.out])
      exact ⟨⟨k + 1, D, by omega, by go_num, by go_num, hS, HS.out⟩, by simp [intOf]; omega⟩
    · obtain rfl : k = l.length := by omega
      have HN : Hid (C = out) := by show _ = _; rw [← hs, List.drop_length]; rfl
      have h2 := ones_xor C hC
      clear hs hr
      go_wp2
      go_ret
      exact ⟨retI (by rw [HN.out]), rfl⟩
theorem rsum_any (a : Option Addr) (cap : Nat) (l : List Nat) (w : World) (hr : Row w a l) (hl : l.length ≤ maxLen) :
    Calls Tryz.prog 81 #[.slice a l.length cap] w fun e w' => e = .returned (.int .u32 ((P.sum l : Nat) : Int)) ∧ w' = w := by
  go_enter Tryz.func81, Tryz.ntmps81
  go_wp2_with (go_at_call 95; refine (rmore_any 0 _ _ _ _ (by decide) hr hl).mono ?_; rintro e w' ⟨rfl, rfl⟩)
  go_ret
  exact ⟨rfl, rfl⟩
end Go.Proofs.YtaooidckmepdeaaGreatDoor
namespace Go.Proofs.YtaooidckmepdeaaGreatDoor
set_option linter.unusedSimpArgs false
set_option linter.unusedVariables false
open Go.RowKit
/-- The first k bytes of a number of n. -/
theorem lay_take (n V k : Nat) (h : k < n) : (lay n V).take (k + 1) = (lay n V).take k ++ [V / 256 ^ (n - 1 - k) % 256] := by
  rw [List.take_succ_eq_append_getElem (by rw [lay_len]; exact h)]
  simp [lay]
set_option maxHeartbeats 800000 in
set_option maxRecDepth 100000 in
theorem lay_any (v : Value) (l : List Nat) (n V : Nat) (w w0 : World) (B : Nat) (hown : w.ownsRow B 5 1 v l.length (cv l)) (hB : Below B w0 w) (hB0 : B ≤ w0.heap.size) (hl : l.length ≤ 1000) (hn : n ≤ 8) (hV : V ≤ 18446744073709551615) :
    Calls Tryz.prog 35 #[v, .int .i64 n, .int .u64 V] w fun e w' => ∃ v', e = .returned v' ∧ w'.ownsRow B 5 1 v' (l ++ lay n V).length (cv (l ++ lay n V)) ∧ Below B w0 w' := by
  obtain ⟨i0, hi, hz0, hz1, hz2⟩ := info_parts Tryz.info5
  obtain ⟨F, HF⟩ : ∃ F : Nat → List Nat, Hid (∀ k, l ++ (lay n V).take k = F k) := ⟨_, fun _ => rfl⟩
  have HS : Hid (∀ k, k < n → F (k + 1) = F k ++ [V / 256 ^ (n - 1 - k) % 256]) := fun k hk => by rw [← HF.out, ← HF.out, lay_take n V k hk, List.append_assoc]
  have HF0 : Hid (F 0 = l) := by show _ = _; rw [← HF.out]; simp
  have HFn : Hid (F n = l ++ lay n V) := by show _ = _; rw [← HF.out, List.take_of_length_le (by rw [lay_len]; omega)]
  have HFl : Hid (∀ k, k ≤ n → (F k).length ≤ 1100) := fun k hk => by rw [← HF.out, List.length_append, List.length_take]; omega
  rw [← HFn.out]
  go_enter Tryz.func35, Tryz.ntmps35
  go_wp2_with fail
  go_loopw [0, 7] (fun p i wr => ∃ k : Nat, k ≤ n ∧ i = .int .i64 ((n : Int) - 1 - k) ∧ wr.ownsRow B 5 1 p (F k).length (cv (F k)) ∧ Below B w0 wr) (fun _ i _ => (intOf i + 1).toNat)
  case atStart => exact ⟨0, by omega, by go_num, by rw [HF0.out]; exact hown, hB⟩
  case round =>
    clear hown hB
    obtain ⟨k, hk, rfl, hown, hB⟩ := hrel
    have hBs : B ≤ wr.heap.size := Nat.le_trans hB0 hB.size
    by_cases hlt : k < n
    · have HL : Hid (F (k + 1) = F k ++ [V / 256 ^ (n - 1 - k) % 256]) := HS.out k hlt
      have hfl := HFl.out k hk
      obtain ⟨j, HJ⟩ : ∃ j, Hid (n - 1 - k = j) := ⟨_, rfl⟩
      have hj : (n : Int) - 1 - k = (j : Int) := by have := HJ.out; omega
      have hj8 : j < 8 := by have := HJ.out; omega
      have hjn : j < n := by have := HJ.out; omega
      rw [HJ.out] at HL
      rw [hj]
      have x1 : IntKind.i64.wrap (8 * (j : Int)) = 8 * (j : Int) := by rw [IntKind.wrap_i64]; omega
      have x3 : (0 : Int) ≤ 8 * (j : Int) := by omega
      have x4 : 8 * (j : Int) ≤ 64 := by omega
      have x5 : (8 * (j : Int)).toNat = 8 * j := by omega
      have hby := byte_at V j
      have x8 : IntKind.u8.wrap ((V : Int) / 2 ^ (8 * j)) = ((V / 256 ^ j % 256 : Nat) : Int) := by rw [IntKind.wrap_u8, hby]
      have HJI : Hid ((n : Int) - 1 - ((k + 1 : Nat) : Int) = (j : Int) - 1) := by have := HJ.out; show _ = _; omega
      clear hby hj
      generalize V / 256 ^ j % 256 = d at *
      go_wp2_with (at_builtin; refine wpList_append_own _ rfl _ _ 22 rfl B 5 i0 (.int .u8 0) 1 1 Tryz.underlying22 hi hz0 hz1 hz2 rfl (by decide) _ _ _ rfl (hown.alloc _) ⟨wr.heap.size, 0, none⟩ 1 1 (cv [d]) rfl rfl (one_cell rfl) (cv_one _) (by unfold maxLen; omega) (by omega) (by simp; omega) ?_; intro v2 w2 hown2 hg2 hq; obtain ⟨hR, hB2⟩ := own_step hown hB hBs hown2 hg2; have hBs2 := hB2.size; clear hown2 hg2 hq)
      exact ⟨⟨k + 1, by omega, by rw [HJI.out], by rw [HL.out]; exact hR, hB2⟩, by simp [intOf]⟩
    · obtain rfl : k = n := by omega
      have hlt2 : ¬ (0 : Int) ≤ (k : Int) - 1 - k := by omega
      go_wp2_with fail
      go_ret
      exact ⟨_, rfl, hown, hB⟩
theorem renc_of {r : Rc} {first : Int} (hc : chk r = 0) (hf : timeB first = true) : Enc 94 r first := fun w => by
  have hE : encE r first = 0 := by simp [encE, hc, hf]
  have hR : encR r first = encL r first := by simp [encR, hE]
  refine (rencode_any r first w).mono ?_
  rintro e w' ⟨v, rfl, hown, hb⟩
  rw [hR] at hown
  obtain ⟨a, c, rfl, hr, hn⟩ := owns_sl hown (encL_lt r first hc hf)
  exact ⟨a, c, by rw [hE], hr, hn, hb⟩
end Go.Proofs.YtaooidckmepdeaaGreatDoor
namespace Go.Proofs.YtaooidckmepdeaaGreatDoor
set_option linter.unusedSimpArgs false
set_option linter.unusedVariables false
open Go.RowKit
def LayP (w0 : World) (B : Nat) (l : List Nat) (w : World) (e : Ending) (w' : World) : Prop := ∃ v', e = .returned v' ∧ w'.ownsRow B 5 1 v' l.length (cv l) ∧ Below B w0 w' ∧ ∀ B', KeepT B' w w'
set_option maxHeartbeats 800000 in
set_option maxRecDepth 100000 in
theorem layk_any (v : Value) (l : List Nat) (n V : Nat) (w w0 : World) (B : Nat) (hown : w.ownsRow B 5 1 v l.length (cv l)) (hB : Below B w0 w) (hB0 : B ≤ w0.heap.size) (hl : l.length ≤ 1000000000000) (hn : n ≤ 8) (hV : V ≤ 18446744073709551615) :
    Calls Tryz.prog 35 #[v, .int .i64 n, .int .u64 V] w (LayP w0 B (l ++ lay n V) w) := by
  obtain ⟨i0, hi, hz0, hz1, hz2⟩ := info_parts Tryz.info5
  obtain ⟨F, HF⟩ : ∃ F : Nat → List Nat, Hid (∀ k, l ++ (lay n V).take k = F k) := ⟨_, fun _ => rfl⟩
  have HS : Hid (∀ k, k < n → F (k + 1) = F k ++ [V / 256 ^ (n - 1 - k) % 256]) := fun k hk => by rw [← HF.out, ← HF.out, lay_take n V k hk, List.append_assoc]
  have HF0 : Hid (F 0 = l) := by show _ = _; rw [← HF.out]; simp
  have HFn : Hid (F n = l ++ lay n V) := by show _ = _; rw [← HF.out, List.take_of_length_le (by rw [lay_len]; omega)]
  have HFl : Hid (∀ k, k ≤ n → (F k).length ≤ 1000000000100) := fun k hk => by rw [← HF.out, List.length_append, List.length_take]; omega
  rw [← HFn.out]
  go_enter Tryz.func35, Tryz.ntmps35
  go_wp2_with fail
  go_loopw [0, 7] (fun p i wr => ∃ k : Nat, k ≤ n ∧ i = .int .i64 ((n : Int) - 1 - k) ∧ wr.ownsRow B 5 1 p (F k).length (cv (F k)) ∧ Below B w0 wr ∧ ∀ B', KeepT B' w wr) (fun _ i _ => (intOf i + 1).toNat)
  case atStart => exact ⟨0, by omega, by go_num, by rw [HF0.out]; exact hown, hB, fun B' => KeepT.refl _ _⟩
  case round =>
    clear hown hB
    obtain ⟨k, hk, rfl, hown, hB, hK⟩ := hrel
    have hBs : B ≤ wr.heap.size := Nat.le_trans hB0 hB.size
    have HK : Hid (∀ B', KeepT B' w wr) := hK
    clear hK
    by_cases hlt : k < n
    · have HL : Hid (F (k + 1) = F k ++ [V / 256 ^ (n - 1 - k) % 256]) := HS.out k hlt
      have hfl := HFl.out k hk
      obtain ⟨j, HJ⟩ : ∃ j, Hid (n - 1 - k = j) := ⟨_, rfl⟩
      have hj : (n : Int) - 1 - k = (j : Int) := by have := HJ.out; omega
      have hj8 : j < 8 := by have := HJ.out; omega
      have hjn : j < n := by have := HJ.out; omega
      rw [HJ.out] at HL
      rw [hj]
      have x1 : IntKind.i64.wrap (8 * (j : Int)) = 8 * (j : Int) := by rw [IntKind.wrap_i64]; omega
      have x3 : (0 : Int) ≤ 8 * (j : Int) := by omega
      have x4 : 8 * (j : Int) ≤ 64 := by omega
      have x5 : (8 * (j : Int)).toNat = 8 * j := by omega
      have hby := byte_at V j
      have x8 : IntKind.u8.wrap ((V : Int) / 2 ^ (8 * j)) = ((V / 256 ^ j % 256 : Nat) : Int) := by rw [IntKind.wrap_u8, hby]
      have HJI : Hid ((n : Int) - 1 - ((k + 1 : Nat) : Int) = (j : Int) - 1) := by have := HJ.out; show _ = _; omega
      clear hby hj
      generalize V / 256 ^ j % 256 = d at *
      go_wp2_with (at_builtin; refine wpList_append_own _ rfl _ _ 22 rfl B 5 i0 (.int .u8 0) 1 1 Tryz.underlying22 hi hz0 hz1 hz2 rfl (by decide) _ _ _ rfl (hown.alloc _) ⟨wr.heap.size, 0, none⟩ 1 1 (cv [d]) rfl rfl (one_cell rfl) (cv_one _) (by unfold maxLen; omega) (by omega) (by simp; omega) ?_; intro v2 w2 hown2 hg2 hq; obtain ⟨hR, hB2⟩ := own_step hown hB hBs hown2 hg2; have hBs2 := hB2.size; have HK2 : Hid (∀ B', KeepT B' w w2) := (fun B' => ((HK.out B').trans (KeepT.of_below (below_box _))).trans (KeepT.grown (hown.alloc _) hg2)); clear hown2 hg2 hq)
      exact ⟨⟨k + 1, by omega, by rw [HJI.out], by rw [HL.out]; exact hR, hB2, HK2.out⟩, by simp [intOf]⟩
    · obtain rfl : k = n := by omega
      have hlt2 : ¬ (0 : Int) ≤ (k : Int) - 1 - k := by omega
      go_wp2_with fail
      go_ret
      exact ⟨_, rfl, hown, hB, HK.out⟩
/-- The pen in block P: what was laid, or that something may not be. -/
structure PnS (w0 : World) (P : Nat) (w : World) (st : Ls) (N : Nat) : Prop where
  ex : ∃ v l, w.heap[P]? = some (.cells #[v, .bool st.isNone] 99 (0, 0)) ∧ w.ownsRow w0.heap.size 5 1 v l.length (cv l) ∧ Byt l ∧ l.length ≤ N ∧ ∀ L, st = some L → l = L
  bel : Below w0.heap.size w0 w
  low : w0.heap.size ≤ P
theorem PnS.below {w0 w w' : World} {P : Nat} {st : Ls} {N : Nat} (h : PnS w0 P w st N) (hb : Below w.heap.size w w') : PnS w0 P w' st N := by
  obtain ⟨v, l, hx, ho, r⟩ := h.ex
  exact ⟨⟨v, l, (hb.block _ (Array.getElem?_eq_some_iff.1 hx).1).trans hx, own_any ho hb, r⟩, h.bel.trans (hb.mono h.bel.size), h.low⟩
theorem PnS.mono {w0 w : World} {P : Nat} {st : Ls} {N M : Nat} (h : PnS w0 P w st N) (hm : N ≤ M) : PnS w0 P w st M := by
  obtain ⟨v, l, hx, ho, hb, hl, hs⟩ := h.ex
  exact ⟨⟨v, l, hx, ho, hb, Nat.le_trans hl hm, hs⟩, h.bel, h.low⟩
theorem PnS.setBad {w0 w : World} {P : Nat} {st : Ls} {N : Nat} (h : PnS w0 P w st N) : PnS w0 P (w.setCell ⟨P, 1, none⟩ (.bool true)) none N ∧ KeepT P w (w.setCell ⟨P, 1, none⟩ (.bool true)) := by
  obtain ⟨v, l, hx, ho, hbt, hl, hs⟩ := h.ex
  refine ⟨⟨⟨v, l, ?_, own_setCell ho (own_box ho hx (by decide)), hbt, hl, fun L e => by cases e⟩, h.bel.setCell (p := ⟨P, 1, none⟩) h.low _, h.low⟩, KeepT.setCell _ _ _ _⟩
  rw [setCell_heap hx]
  rfl
theorem PnS.app {w0 w w1 : World} {P : Nat} {st : Ls} {N M : Nat} {v v' : Value} {l m : List Nat} (hx : w.heap[P]? = some (.cells #[v, .bool st.isNone] 99 (0, 0))) (hbt : Byt l) (hl : l.length ≤ N) (hs : ∀ L, st = some L → l = L)
    (low : w0.heap.size ≤ P) (ho' : w1.ownsRow w0.heap.size 5 1 v' (l ++ m).length (cv (l ++ m))) (b1 : Below w0.heap.size w0 w1) (hk : ∀ B', KeepT B' w w1) (hm : Byt m) (hM : N + m.length ≤ M) : PnS w0 P (w1.setCell ⟨P, 0, none⟩ v') (oa st (some m)) M ∧ KeepT P w (w1.setCell ⟨P, 0, none⟩ v') := by
  have hx1 : w1.heap[P]? = some (.cells #[v, .bool st.isNone] 99 (0, 0)) := (hk (P + 1)).blk P _ (by omega) hx (notB (by decide))
  refine ⟨⟨⟨v', l ++ m, ?_, own_setCell ho' (own_box ho' hx1 (by decide)), hbt.app hm, by rw [List.length_append]; omega, ?_⟩, b1.setCell (p := ⟨P, 0, none⟩) low _, low⟩, (hk P).trans (KeepT.setCell _ _ _ _)⟩
  · rw [setCell_heap hx1]
    cases st <;> rfl
  · intro L e
    obtain ⟨x, y, e1, e2, rfl⟩ := oa_some e
    rw [hs x e1]
    injection e2 with e2
    rw [e2]
/-- What a method of the pen leaves. -/
def PP (w0 : World) (P : Nat) (w : World) (st : Ls) (N : Nat) (e : Ending) (w' : World) : Prop := e = .returned (.tuple #[]) ∧ PnS w0 P w' st N ∧ KeepT P w w'
def eSh (n : Nat) : Ls := if n ≤ 65535 then some (lay 2 n) else none
/-- The pen's cells, opened. -/
theorem PnS.open {w0 w : World} {P : Nat} {st : Ls} {N : Nat} (h : PnS w0 P w st N) : ∃ a l c, w.cell? ⟨P, 0, none⟩ = some (.slice a l.length c) ∧ w.cell? ⟨P, 1, none⟩ = some (.bool st.isNone) ∧ w.frozen? ⟨P, 0, none⟩ = false ∧ w.frozen? ⟨P, 1, none⟩ = false ∧
    w.heap[P]? = some (.cells #[.slice a l.length c, .bool st.isNone] 99 (0, 0)) ∧ w.ownsRow w0.heap.size 5 1 (.slice a l.length c) l.length (cv l) ∧ Byt l ∧ l.length ≤ N ∧ ∀ L, st = some L → l = L := by
  obtain ⟨v, l, hx, ho, hbt, hl, hs⟩ := h.ex
  obtain ⟨a, c, rfl⟩ := own_slice ho
  exact ⟨a, l, c, (box_at hx 0).1, (box_at hx 1).1, (box_at hx 0).2, (box_at hx 1).2, hx, ho, hbt, hl, hs⟩
/-- What Lay told is to be stored into the pen. -/
def PL (w0 : World) (P : Nat) (w : World) (st : Ls) (N : Nat) (e : Ending) (w' : World) : Prop := ∃ a' k' c', e = .returned (.slice a' k' c') ∧ (∀ B', KeepT B' w w') ∧ PnS w0 P (w'.setCell ⟨P, 0, none⟩ (.slice a' k' c')) st N
theorem pen_lay {w0 w : World} {P : Nat} {st : Ls} {N : Nat} (hN : N ≤ 900000000000) (h : PnS w0 P w st N) :
    ∃ (a : Option Addr) (k : Nat) (c : Nat), w.heap[P]? = some (.cells #[.slice a k c, .bool st.isNone] 99 (0, 0)) ∧
      ∀ (n V : Nat), n ≤ 8 → V ≤ 18446744073709551615 → Calls Tryz.prog 35 #[.slice a k c, .int .i64 (n : Int), .int .u64 (V : Int)] w (PL w0 P w (oa st (some (lay n V))) (N + n)) := by
  obtain ⟨a, l, c, c0, c1, f0, f1, hx, ho, hbt, hl, hs⟩ := h.open
  refine ⟨a, l.length, c, hx, fun n V hn hV => ?_⟩
  refine Calls.mono (layk_any _ l n V w w0 w0.heap.size ho h.bel (Nat.le_refl _) (by omega) hn hV) ?_
  rintro e w' ⟨v', rfl, ho', hb', hk'⟩
  obtain ⟨a', c', rfl⟩ := own_slice ho'
  obtain ⟨q1, q2⟩ := PnS.app (M := N + n) hx hbt hl hs h.low ho' hb' hk' (lay_byt n V) (by rw [lay_len]; omega)
  exact ⟨a', _, c', rfl, hk', q1⟩
/-- The pen's box stays while Lay works. -/
theorem pen_box {P : Nat} {w w' : World} {cs : Array Value} (hx : w.heap[P]? = some (.cells cs 99 (0, 0))) (hk : ∀ B', KeepT B' w w') : w'.heap[P]? = some (.cells cs 99 (0, 0)) := (hk (P + 1)).blk P _ (by omega) hx (notB (by decide))
theorem pen_cells {P : Nat} {w : World} {a : Option Addr} {k c : Nat} {b : Bool} (hx : w.heap[P]? = some (.cells #[.slice a k c, .bool b] 99 (0, 0))) : w.cell? ⟨P, 0, none⟩ = some (.slice a k c) ∧ w.cell? ⟨P, 1, none⟩ = some (.bool b) ∧ w.frozen? ⟨P, 0, none⟩ = false ∧ w.frozen? ⟨P, 1, none⟩ = false :=
  ⟨(box_at hx 0).1, (box_at hx 1).1, (box_at hx 0).2, (box_at hx 1).2⟩
set_option maxHeartbeats 800000 in
set_option maxRecDepth 100000 in
theorem short_any (w0 w : World) (P : Nat) (st : Ls) (N n : Nat) (hN : N ≤ 900000000000) (hn : n ≤ 9223372036854775807) (h : PnS w0 P w st N) :
    Calls Tryz.prog 50 #[.pointer (some ⟨P, 0, none⟩), .int .i64 (n : Int)] w (PP w0 P w (oa st (eSh n)) (N + 2)) := by
  have hnI : (n : Int) ≤ 9223372036854775807 := by omega
  have e1 : IntKind.u64.wrap (n : Int) = (n : Int) := wu64 _ (by omega) (by omega)
  by_cases hl : (n : Int) > 65535
  · rw [show oa st (eSh n) = oa none (some (lay 2 n)) by unfold eSh; rw [if_neg (by omega), oa_none]; rfl]
    obtain ⟨a0, l0, k0, c0, c1, f0, f1, _⟩ := h.open
    obtain ⟨h1, hk1⟩ := h.setBad
    obtain ⟨a, k, c, hx, HC⟩ := pen_lay hN h1
    obtain ⟨d0, d1, g0, g1⟩ := pen_cells hx
    have HX : Hid _ := hx
    have HC2 : Hid (Calls Tryz.prog 35 #[.slice a k c, .int .i64 2, .int .u64 (n : Int)] (w.setCell ⟨P, 1, none⟩ (.bool true)) (PL w0 P (w.setCell ⟨P, 1, none⟩ (.bool true)) (oa none (some (lay 2 n))) (N + 2))) := HC 2 n (by decide) (by omega)
    have HK : Hid (KeepT P w (w.setCell ⟨P, 1, none⟩ (.bool true))) := hk1
    clear h h1 hk1 HC hx
    go_enter Tryz.func50, Tryz.ntmps50
    go_wp2_with (go_at_call 35; refine Calls.mono HC2.out ?_; rintro e w2 ⟨a', k', c', rfl, hk, hq⟩; have HQ : Hid (PnS w0 P (w2.setCell ⟨P, 0, none⟩ (.slice a' k' c')) (oa none (some (lay 2 n))) (N + 2)) := hq; have HK2 : Hid (KeepT P (w.setCell ⟨P, 1, none⟩ (.bool true)) w2) := hk P; clear d0 d1 g0 g1; obtain ⟨d0, d1, g0, g1⟩ := pen_cells (pen_box HX.out hk); clear hq hk)
    go_end0
    exact ⟨rfl, HQ.out, HK.out.trans (HK2.out.trans (KeepT.setCell _ _ _ _))⟩
  · rw [show eSh n = some (lay 2 n) by unfold eSh; rw [if_pos (by omega)]]
    obtain ⟨a, k, c, hx, HC⟩ := pen_lay hN h
    obtain ⟨d0, d1, g0, g1⟩ := pen_cells hx
    have HX : Hid _ := hx
    have HC2 : Hid (Calls Tryz.prog 35 #[.slice a k c, .int .i64 2, .int .u64 (n : Int)] w (PL w0 P w (oa st (some (lay 2 n))) (N + 2))) := HC 2 n (by decide) (by omega)
    clear h HC hx
    go_enter Tryz.func50, Tryz.ntmps50
    go_wp2_with (go_at_call 35; refine Calls.mono HC2.out ?_; rintro e w2 ⟨a', k', c', rfl, hk, hq⟩; have HQ : Hid (PnS w0 P (w2.setCell ⟨P, 0, none⟩ (.slice a' k' c')) (oa st (some (lay 2 n))) (N + 2)) := hq; have HK2 : Hid (KeepT P w w2) := hk P; clear d0 d1 g0 g1; obtain ⟨d0, d1, g0, g1⟩ := pen_cells (pen_box HX.out hk); clear hq hk)
    go_end0
    exact ⟨rfl, HQ.out, HK2.out.trans (KeepT.setCell _ _ _ _)⟩
theorem sh_text (st : Ls) (s : ByteArray) : oa (oa st (eSh s.size)) (some (sb s)) = oa st (eText s) := by
  unfold eSh eText
  split
  · rw [oa_assoc]; rfl
  · rw [oa_none, none_oa]
set_option maxHeartbeats 800000 in
set_option maxRecDepth 100000 in
theorem ptext_any (w0 w : World) (P : Nat) (st : Ls) (N : Nat) (s : ByteArray) (hN : N ≤ 700000000000) (hs : s.size ≤ 100000000000) (h : PnS w0 P w st N) :
    Calls Tryz.prog 48 #[.pointer (some ⟨P, 0, none⟩), .string s] w (PP w0 P w (oa st (eText s)) (N + 2 + s.size)) := by
  have HC : Hid (Calls Tryz.prog 50 #[.pointer (some ⟨P, 0, none⟩), .int .i64 (s.size : Int)] w (PP w0 P w (oa st (eSh s.size)) (N + 2))) := short_any w0 w P st N s.size (by omega) (by omega) h
  rw [← sh_text]
  have HL : Hid ((sb s).length = s.size) := sb_len s
  generalize oa st (eSh s.size) = st1 at *
  have hsI : (s.size : Int) ≤ 100000000000 := by omega
  have HLO : Hid (w0.heap.size ≤ P) := h.low
  clear h
  go_enter Tryz.func48, Tryz.ntmps48
  go_wp2_with (first
    | (go_at_call 50; refine Calls.mono HC.out ?_; rintro e w1 ⟨rfl, hw1, hk1⟩; have HK1 : Hid (KeepT P w w1) := hk1; have HBL : Hid (Below w0.heap.size w0 w1) := hw1.bel; obtain ⟨a, l, c, c0, c1, f0, f1, hx, ho, hbt, hl2, hs2⟩ := hw1.open; have HO : Hid (w1.ownsRow w0.heap.size 5 1 (.slice a l.length c) l.length (cv l)) := ho; have HX : Hid (w1.heap[P]? = some (.cells #[.slice a l.length c, .bool st1.isNone] 99 (0, 0))) := hx; have HS : Hid (∀ L, st1 = some L → l = L) := hs2; clear ho hx hs2 hw1 hk1)
    | (at_builtin; refine wpList_append_txt (by rfl) _ _ rfl w0.heap.size _ l rfl HO.out (HBL.out.size) s rfl (by omega) ?_; intro v' w2 ho2 hg2; obtain ⟨a2, c2, rfl⟩ := own_slice ho2; have HF : Hid _ := PnS.app (M := N + 2 + s.size) HX.out hbt hl2 HS.out HLO.out ho2 (HBL.out.grown hg2 HBL.out.size (fun k hk => (HO.out.lt k hk).1)) (fun B' => KeepT.grown HO.out hg2) (sb_byt s) (by rw [HL.out]; omega); have hq2 : Hid _ := (hg2.block P (Array.getElem?_eq_some_iff.1 HX.out).1 (fun e => own_box HO.out HX.out (by decide) _ e.symm rfl)).trans HX.out; have f2 := (box_at hq2.out 0).2; have d2 := (box_at hq2.out 0).1; simp only [List.getElem?_toArray, List.getElem?_cons_zero] at d2; clear ho2 hg2))
  go_end0
  have q := HF.out
  rw [List.length_append] at q
  exact ⟨rfl, q.1, HK1.out.trans q.2⟩
end Go.Proofs.YtaooidckmepdeaaGreatDoor
namespace Go.Proofs.YtaooidckmepdeaaGreatDoor
set_option linter.unusedSimpArgs false
set_option linter.unusedVariables false
open Go.RowKit
/-- The cells of a bag. -/
def gbl (k i : Int) (T : Nat → ByteArray) (M : Nat → Int) (c : Bool) (s0 s1 s2 s3 : Value) : List Value :=
  Value.int .i64 k :: Value.int .i64 i :: ((List.range 2).map (fun f => Value.string (T f)) ++ ((List.range 20).map (fun f => Value.int .i64 (M f)) ++ [.bool c, s0, s1, s2, s3]))
def gbc (k i : Int) (T : Nat → ByteArray) (M : Nat → Int) (c : Bool) (s0 s1 s2 s3 : Value) : Array Value := (gbl k i T M c s0 s1 s2 s3).toArray
section
variable (k i : Int) (T : Nat → ByteArray) (M : Nat → Int) (c : Bool) (s0 s1 s2 s3 : Value)
theorem gbc_size : (gbc k i T M c s0 s1 s2 s3).size = 29 := by simp [gbc, gbl]
theorem gbc_n (f : Nat) (h : f < 20) : (gbc k i T M c s0 s1 s2 s3)[4 + f]? = some (.int .i64 (M f)) := by
  unfold gbc gbl
  rw [List.getElem?_toArray, show 4 + f = (f + 2) + 2 by omega, List.getElem?_cons_succ, List.getElem?_cons_succ, List.getElem?_append_right (by simp), List.getElem?_append_left (by simp; omega)]
  simp [h]
theorem gbc_r : (gbc k i T M c s0 s1 s2 s3)[24]? = some (.bool c) ∧ (gbc k i T M c s0 s1 s2 s3)[25]? = some s0 ∧ (gbc k i T M c s0 s1 s2 s3)[26]? = some s1 ∧ (gbc k i T M c s0 s1 s2 s3)[27]? = some s2 ∧ (gbc k i T M c s0 s1 s2 s3)[28]? = some s3 := ⟨rfl, rfl, rfl, rfl, rfl⟩
theorem gbc_one (a0 a1 a2 a3 : Option Addr) (n0 n1 n2 n3 k0 k1 k2 k3 : Nat) : (gbc k i T M c (.slice a0 n0 k0) (.slice a1 n1 k1) (.slice a2 n2 k2) (.slice a3 n3 k3)).all (·.oneCell') = true := by
  simp [gbc, gbl, List.range, List.range.loop, Value.oneCell']
end
theorem Tryz.info73 : (Tryz.prog.info? 73).map (·.size) = some 29 := by kernel_rfl
def zbg : Array Value := gbc 0 0 (fun _ => ⟨#[]⟩) (fun _ => 0) false (.slice none 0 0) (.slice none 0 0) (.slice none 0 0) (.slice none 0 0)
/-- The one that is read, the cell of what is told, the bag. -/
structure BG (w : World) (t : TypeId) (Z rcs cs : Array Value) (x : World) : Prop where
  r : x.heap[w.heap.size]? = some (.cells rcs t (0, 0))
  o : x.heap[w.heap.size + 1]? = some (.cells Z 73 (0, 0))
  b : x.heap[w.heap.size + 2]? = some (.cells cs 73 (0, 0))
  sz : cs.size = 29
  bel : Below w.heap.size w x
theorem BG.put {w x : World} {t : TypeId} {Z rcs cs : Array Value} (h : BG w t Z rcs cs x) (i : Nat) (v : Value) : BG w t Z rcs (cs.setIfInBounds i v) (x.setCell ⟨w.heap.size + 2, i, none⟩ v) := by
  refine ⟨?_, ?_, ?_, by simpa using h.sz, h.bel.setCell (p := ⟨w.heap.size + 2, i, none⟩) (by simp) _⟩
  · rw [heap_setCell_other x ⟨w.heap.size + 2, i, none⟩ w.heap.size v (by simp)]
    exact h.r
  · rw [heap_setCell_other x ⟨w.heap.size + 2, i, none⟩ (w.heap.size + 1) v (by simp)]
    exact h.o
  · rw [setCell_heap h.b]
theorem wpList_putG {w x : World} {t : TypeId} {Z rcs cs : Array Value} {ops : Array Oper} {rest : List Oper} {o : Oper} {a : Act} {Q : Exit → Act → World → Prop} (hg : o.guard = none) (ty : TypeId) (p y : Operand) (ho : o.op = .store ty p y) (HB : BG w t Z rcs cs x) (i : Nat) (v : Value)
    (hp : a.eval p = .pointer (some ⟨w.heap.size + 2, i, none⟩)) (hy : a.eval y = v) (hi : i < 29)
    (hst : ∀ u, x.cell? ⟨w.heap.size + 2, i, none⟩ = some u → x.frozen? ⟨w.heap.size + 2, i, none⟩ = false → (Instr.storeAt ty (.pointer (some ⟨w.heap.size + 2, i, none⟩)) v).run Tryz.prog x = .ok () (x.setCell ⟨w.heap.size + 2, i, none⟩ v))
    (h : ∀ x', BG w t Z rcs (cs.setIfInBounds i v) x' → wpList Tryz.prog ops Q rest (a.put o.dst undef) x') : wpList Tryz.prog ops Q (o :: rest) a x := by
  refine wpList_plain hg fun K hK => ?_
  have hc : x.cell? ⟨w.heap.size + 2, i, none⟩ = some (cs[i]'(by rw [HB.sz]; exact hi)) := by
    rw [(box_at HB.b i).1, Array.getElem?_eq_getElem (by rw [HB.sz]; exact hi)]
  have hr := hst _ hc (box_at HB.b i).2
  unfold Oper.wp execOp
  simp only [ho, hp, hy, Sem.run_bind, Sem.run_pure, Result.andThen_ok, hr]
  exact hK _ _ (h _ (HB.put i v))
theorem putG_int {w x : World} {t : TypeId} {Z rcs cs : Array Value} {ops : Array Oper} {rest : List Oper} {o : Oper} {a : Act} {Q : Exit → Act → World → Prop} (hg : o.guard = none) (p y : Operand) (ho : o.op = .store 3 p y) (HB : BG w t Z rcs cs x) (i : Nat) (n : Int)
    (hp : a.eval p = .pointer (some ⟨w.heap.size + 2, i, none⟩)) (hy : a.eval y = .int .i64 n) (hi : i < 29)
    (h : ∀ x', BG w t Z rcs (cs.setIfInBounds i (.int .i64 n)) x' → wpList Tryz.prog ops Q rest (a.put o.dst undef) x') : wpList Tryz.prog ops Q (o :: rest) a x :=
  wpList_putG hg 3 p y ho HB i _ hp hy hi (fun u hc hf => st3 _ _ _ _ u hc hf) h
theorem run_alloc73 (x : World) : (Instr.alloc 73 true (.tuple #[])).run Tryz.prog x = .ok (.pointer (some ⟨x.heap.size, 0, none⟩)) (x.alloc (.cells zbg 73)) := by
  go_simp
  rfl
theorem gbc_ext {k i : Int} {T T' : Nat → ByteArray} {M M' : Nat → Int} {c : Bool} {s0 s1 s2 s3 : Value} (h1 : ∀ f, f < 2 → T f = T' f) (h2 : ∀ f, f < 20 → M f = M' f) : gbc k i T M c s0 s1 s2 s3 = gbc k i T' M' c s0 s1 s2 s3 := by
  unfold gbc gbl
  rw [show (List.range 2).map (fun f => Value.string (T f)) = (List.range 2).map (fun f => Value.string (T' f)) from List.map_congr_left (fun f hf => by rw [h1 f (by simpa using hf)]), show (List.range 20).map (fun f => Value.int .i64 (M f)) = (List.range 20).map (fun f => Value.int .i64 (M' f)) from List.map_congr_left (fun f hf => by rw [h2 f (by simpa using hf)])]
theorem BG.new (w : World) (t : TypeId) (rcs cs : Array Value) (h : cs.size = 29) : BG w t zbg rcs cs ((((w.alloc (.cells rcs t)).alloc (.cells zbg 73)).alloc (.cells zbg 73)).setRow (w.heap.size + 2) cs) := by
  have e1 : (w.alloc (.cells rcs t)).heap.size = w.heap.size + 1 := by simp
  have e2 : ((w.alloc (.cells rcs t)).alloc (.cells zbg 73)).heap.size = w.heap.size + 2 := by simp
  have b1 : Below w.heap.size w (w.alloc (.cells rcs t)) := below_box _
  have b2 : Below (w.heap.size + 1) (w.alloc (.cells rcs t)) ((w.alloc (.cells rcs t)).alloc (.cells zbg 73)) := by rw [← e1]; exact below_box _
  have b3 : Below (w.heap.size + 2) ((w.alloc (.cells rcs t)).alloc (.cells zbg 73)) (((w.alloc (.cells rcs t)).alloc (.cells zbg 73)).alloc (.cells zbg 73)) := by rw [← e2]; exact below_box _
  have h0 : (((w.alloc (.cells rcs t)).alloc (.cells zbg 73)).alloc (.cells zbg 73)).heap[w.heap.size]? = some (.cells rcs t (0, 0)) := by
    rw [b3.block _ (by omega), b2.block _ (by omega)]; exact heap_alloc_new w _
  have h1 : (((w.alloc (.cells rcs t)).alloc (.cells zbg 73)).alloc (.cells zbg 73)).heap[w.heap.size + 1]? = some (.cells zbg 73 (0, 0)) := by
    rw [b3.block _ (by omega)]
    have := heap_alloc_new (w.alloc (.cells rcs t)) (.cells zbg 73)
    rw [e1] at this; exact this
  have h2 : (((w.alloc (.cells rcs t)).alloc (.cells zbg 73)).alloc (.cells zbg 73)).heap[w.heap.size + 2]? = some (.cells zbg 73 (0, 0)) := by
    have := heap_alloc_new ((w.alloc (.cells rcs t)).alloc (.cells zbg 73)) (.cells zbg 73)
    rw [e2] at this; exact this
  refine ⟨?_, ?_, setRow_heap _ _ _ _ _ _ h2, h, below_setRow (b1.trans ((b2.mono (by omega)).trans (b3.mono (by omega)))) (by omega) _⟩
  · rw [setRow_other _ _ _ _ (by omega)]; exact h0
  · rw [setRow_other _ _ _ _ (by omega)]; exact h1
theorem wpList_allocZ {t : TypeId} {ZB : Array Value} {ops : Array Oper} {rest : List Oper} {o : Oper} {a : Act} {w : World} {Q : Exit → Act → World → Prop} (hz : ∀ x : World, (Instr.alloc t true (.tuple #[])).run Tryz.prog x = .ok (.pointer (some ⟨x.heap.size, 0, none⟩)) (x.alloc (.cells ZB t))) (hg : o.guard = none) (ho : o.op = .alloc t) (g : Nat) (hgz : w.heap.size = g)
    (h : wpList Tryz.prog ops Q rest (a.put o.dst (.pointer (some ⟨g, 0, none⟩))) (w.alloc (.cells ZB t))) : wpList Tryz.prog ops Q (o :: rest) a w := by
  subst hgz
  refine wpList_plain hg fun K hK => ?_
  unfold Oper.wp execOp
  simp only [ho, Sem.run_bind, Sem.run_pure, Result.andThen_ok, hz]
  exact hK _ _ h
theorem wpList_buildZ {t : TypeId} {CS : Array Value} {ops : Array Oper} {rest : List Oper} {o : Oper} {a : Act} {w : World} {Q : Exit → Act → World → Prop} {parts : Array (Nat × Operand)} {vs : Array (Nat × Value)} (hb : ∀ x : World, (Instr.build t vs).run Tryz.prog x = .ok (.agg CS) x) (hg : o.guard = none) (ho : o.op = .build t parts) (he : (parts.toList.map fun (i, x) => (i, a.eval x)) = vs.toList)
    (h : wpList Tryz.prog ops Q rest (a.put o.dst (.agg CS)) w) : wpList Tryz.prog ops Q (o :: rest) a w := by
  have he' : (parts.map fun (i, x) => (i, a.eval x)) = vs := by
    apply Array.ext'
    rw [Array.toList_map]
    exact he
  refine wpList_plain hg fun K hK => ?_
  unfold Oper.wp execOp
  simp only [ho, he', Sem.run_bind, Sem.run_pure, Result.andThen_ok, hb]
  exact hK _ _ h
end Go.Proofs.YtaooidckmepdeaaGreatDoor
namespace Go.Proofs.YtaooidckmepdeaaGreatDoor
set_option linter.unusedSimpArgs false
set_option linter.unusedVariables false
open Go.RowKit
theorem eL_take {α : Type} (en : α → Ls) (l : List α) (d : α) (k : Nat) (hk : k < l.length) : eL en (l.take (k + 1)) = oa (eL en (l.take k)) (en (l.getD k d)) := by
  rw [List.take_succ_eq_append_getElem hk, eL_app, List.getD_eq_getElem?_getD, List.getElem?_eq_getElem hk]
  simp [eL, oa_nil]
theorem eL_none {α : Type} (en : α → Ls) (l : List α) (s : Ls) (k : Nat) (h : oa s (eL en (l.take k)) = none) : oa s (eL en l) = none := by
  have : eL en l = oa (eL en (l.take k)) (eL en (l.drop k)) := by rw [← eL_app, List.take_append_drop]
  rw [this, ← oa_assoc, h, none_oa]
/-- What the document calls a field's kind. -/
def wh (f : Nat) : Int := if kd f = 2 then 1 else if kd f = 0 then 2 else if kd f = 1 then 3 else if kd f = 3 then 4 else if kd f = 6 then 5 else if kd f = 4 then 6 else 7
def WBox (w : World) (a : Option Addr) (r : List Nat) : Prop := r = [] ∨ ∃ g cs, a = some ⟨g, 0, none⟩ ∧ w.heap[g]? = some (.cells cs 78 (0, 0)) ∧ ∀ j, j < r.length → cs[j * 2]? = some (.int .i64 (wh (r.getD j 0))) ∧ cs[j * 2 + 1]? = some (.int .i64 ((r.getD j 0 : Nat) : Int))
def RwP (r : List Nat) (w : World) (e : Ending) (w' : World) : Prop := (∃ a c, e = .returned (.slice a r.length c) ∧ WBox w' a r) ∧ Below w.heap.size w w'
set_option maxHeartbeats 1000000 in
set_option maxRecDepth 100000 in
theorem pf_num (w0 w : World) (P : Nat) (st : Ls) (N f : Nat) (k i : Int) (T : Nat → ByteArray) (M : Nat → Int) (c : Bool) (s0 s1 s2 s3 : Value) (hf : f < 20) (hN : N ≤ 700000000000) (h : PnS w0 P w st N) :
    Calls Tryz.prog 36 #[(.pointer (some ⟨P, 0, none⟩)), .agg #[.int .i64 2, .int .i64 (f : Int)], .agg (gbc k i T M c s0 s1 s2 s3)] w (PP w0 P w (oa st (some (eInt (M f)))) (N + 8)) := by
  have HB : Hid (((w.alloc (.cells #[.int .i64 2, .int .i64 (f : Int)] 78)).alloc (.cells (gbc k i T M c s0 s1 s2 s3) 73)).heap[w.heap.size]? = some (.cells #[.int .i64 2, .int .i64 (f : Int)] 78 (0, 0))) := (two_boxes w _ _ 78 73).1
  have HG : Hid (((w.alloc (.cells #[.int .i64 2, .int .i64 (f : Int)] 78)).alloc (.cells (gbc k i T M c s0 s1 s2 s3) 73)).heap[w.heap.size + 1]? = some (.cells (gbc k i T M c s0 s1 s2 s3) 73 (0, 0))) := (two_boxes w _ _ 78 73).2
  have HBL : Hid (Below w.heap.size w ((w.alloc (.cells #[.int .i64 2, .int .i64 (f : Int)] 78)).alloc (.cells (gbc k i T M c s0 s1 s2 s3) 73))) := (below_box _).trans ((below_box _).mono (by simp))
  have HY : Hid (PnS w0 P ((w.alloc (.cells #[.int .i64 2, .int .i64 (f : Int)] 78)).alloc (.cells (gbc k i T M c s0 s1 s2 s3) 73)) st N) := PnS.below h HBL.out
  have HPW : Hid (P < w.heap.size) := by obtain ⟨v0, l0, hx0, _⟩ := h.ex; exact (Array.getElem?_eq_some_iff.1 hx0).1
  have b0 : ((w.alloc (.cells #[.int .i64 2, .int .i64 (f : Int)] 78)).alloc (.cells (gbc k i T M c s0 s1 s2 s3) 73)).cell? ⟨w.heap.size, 0, none⟩ = some (.int .i64 2) := (box_at HB.out 0).1
  have b1 : ((w.alloc (.cells #[.int .i64 2, .int .i64 (f : Int)] 78)).alloc (.cells (gbc k i T M c s0 s1 s2 s3) 73)).cell? ⟨w.heap.size, 1, none⟩ = some (.int .i64 (f : Int)) := (box_at HB.out 1).1
  have g4 : ((w.alloc (.cells #[.int .i64 2, .int .i64 (f : Int)] 78)).alloc (.cells (gbc k i T M c s0 s1 s2 s3) 73)).cell? ⟨w.heap.size + 1, 4 + f, none⟩ = some (.int .i64 (M f)) := by rw [(box_at HG.out (4 + f)).1]; exact gbc_n _ _ _ _ _ _ _ _ _ f hf
  have hfI : (f : Int) < 20 := by omega
  have HU : Hid (IntKind.u64.wrap (M f) = ((un (M f) : Nat) : Int) ∧ un (M f) ≤ 18446744073709551615) := ⟨u64_un (M f), by have := un_lt (M f); omega⟩
  have eU := HU.out.1
  rw [show eInt (M f) = lay 8 (un (M f)) from rfl]
  have HS82 : Hid (∀ x, (∀ B', KeepT B' ((w.alloc (.cells #[.int .i64 2, .int .i64 (f : Int)] 78)).alloc (.cells (gbc k i T M c s0 s1 s2 s3) 73)).drew x) → x.cell? ⟨w.heap.size, 1, none⟩ = some (.int .i64 (f : Int))) := fun x hx => by
    have q := KeepT.box (hx (w.heap.size + 7)) (show ((w.alloc (.cells #[.int .i64 2, .int .i64 (f : Int)] 78)).alloc (.cells (gbc k i T M c s0 s1 s2 s3) 73)).drew.heap[w.heap.size]? = _ from HB.out) (by omega) (by decide)
    rw [(box_at q 1).1]; rfl
  have HS71 : Hid (∀ x, (∀ B', KeepT B' ((w.alloc (.cells #[.int .i64 2, .int .i64 (f : Int)] 78)).alloc (.cells (gbc k i T M c s0 s1 s2 s3) 73)).drew x) → x.cell? ⟨w.heap.size + 1, 4 + f, none⟩ = some (.int .i64 (M f))) := fun x hx => by
    have q := KeepT.box (hx (w.heap.size + 7)) (show ((w.alloc (.cells #[.int .i64 2, .int .i64 (f : Int)] 78)).alloc (.cells (gbc k i T M c s0 s1 s2 s3) 73)).drew.heap[w.heap.size + 1]? = _ from HG.out) (by omega) (by decide)
    rw [(box_at q (4 + f)).1]; exact gbc_n _ _ _ _ _ _ _ _ _ f hf
  clear h HB HG
  generalize un (M f) = U at *
  generalize M f = m at *
  generalize (gbc k i T M c s0 s1 s2 s3) = GS at *
  go_enter Tryz.func36, Tryz.ntmps36
  go_wp2_with fail
  generalize ((w.alloc (.cells #[.int .i64 2, .int .i64 (f : Int)] 78)).alloc (.cells GS 73)) = z at *
  obtain ⟨a3, k3, c3, hx3, hC⟩ := pen_lay (by omega) (PnS.below HY.out (below_drew _))
  have HC : Hid (Calls Tryz.prog 35 #[.slice a3 k3 c3, .int .i64 8, .int .u64 (U : Int)] z.drew (PL w0 P z.drew (oa st (some (lay 8 U))) (N + 8))) := hC 8 U (by decide) HU.out.2
  have HX3 : Hid (z.drew.heap[P]? = some (.cells #[.slice a3 k3 c3, .bool st.isNone] 99 (0, 0))) := hx3
  obtain ⟨d0, d1, e0, e1⟩ := pen_cells HX3.out
  have hS0 : z.drew.cell? ⟨P, 0, none⟩ = some (.slice a3 k3 c3) ∧ z.drew.cell? ⟨w.heap.size, 1, none⟩ = some (.int .i64 (f : Int)) ∧ z.drew.cell? ⟨w.heap.size + 1, 4 + f, none⟩ = some (.int .i64 m) := ⟨d0, b1, g4⟩
  clear hx3 hC d0 d1 e0 e1
  refine wp_region_lat (fun y : World => y.cell? ⟨P, 0, none⟩ = some (.slice a3 k3 c3) ∧ y.cell? ⟨w.heap.size, 1, none⟩ = some (.int .i64 (f : Int)) ∧ y.cell? ⟨w.heap.size + 1, 4 + f, none⟩ = some (.int .i64 m)) 14 (by kernel_rfl) hS0 (fun hHeld => ?_)
  refine lat_take 0 (v := ?_) rfl (by kernel_rfl) (by kernel_rfl) (by kernel_rfl) (by kernel_rfl) (fun _ _ _ h => h) (by rfl) ?_ (by assumption) ?_
  rotate_left
  · (intro y hSy; (try dsimp only at hSy); (try obtain ⟨q0, q1, q2⟩ := hSy); go_simp <;> with_reducible rfl)
  try simp only [Act.put, List.setIfInBounds_toArray, List.set_cons_zero, List.set_cons_succ]
  refine lat_take 1 (v := ?_) rfl (by kernel_rfl) (by kernel_rfl) (by kernel_rfl) (by kernel_rfl) (fun _ _ _ h => h) (by rfl) ?_ (by assumption) ?_
  rotate_left
  · (intro y hSy; (try dsimp only at hSy); (try obtain ⟨q0, q1, q2⟩ := hSy); go_simp <;> with_reducible rfl)
  try simp only [Act.put, List.setIfInBounds_toArray, List.set_cons_zero, List.set_cons_succ]
  refine lat_take 2 (v := ?_) rfl (by kernel_rfl) (by kernel_rfl) (by kernel_rfl) (by kernel_rfl) (fun _ _ _ h => h) (by rfl) ?_ (by assumption) ?_
  rotate_left
  · (intro y hSy; (try dsimp only at hSy); (try obtain ⟨q0, q1, q2⟩ := hSy); go_simp <;> with_reducible rfl)
  try simp only [Act.put, List.setIfInBounds_toArray, List.set_cons_zero, List.set_cons_succ]
  refine lat_take 3 (v := ?_) rfl (by kernel_rfl) (by kernel_rfl) (by kernel_rfl) (by kernel_rfl) (fun _ _ _ h => h) (by rfl) ?_ (by assumption) ?_
  rotate_left
  · (intro y hSy; (try dsimp only at hSy); (try obtain ⟨q0, q1, q2⟩ := hSy); go_simp <;> with_reducible rfl)
  try simp only [Act.put, List.setIfInBounds_toArray, List.set_cons_zero, List.set_cons_succ]
  refine lat_take 4 (v := ?_) rfl (by kernel_rfl) (by kernel_rfl) (by kernel_rfl) (by kernel_rfl) (fun _ _ _ h => h) (by rfl) ?_ (by assumption) ?_
  rotate_left
  · (intro y hSy; (try dsimp only at hSy); (try obtain ⟨q0, q1, q2⟩ := hSy); go_simp <;> with_reducible rfl)
  try simp only [Act.put, List.setIfInBounds_toArray, List.set_cons_zero, List.set_cons_succ]
  refine lat_take 5 (v := ?_) rfl (by kernel_rfl) (by kernel_rfl) (by kernel_rfl) (by kernel_rfl) (fun _ _ _ h => h) (by rfl) ?_ (by assumption) ?_
  rotate_left
  · (intro y hSy; (try dsimp only at hSy); (try obtain ⟨q0, q1, q2⟩ := hSy); go_simp <;> with_reducible rfl)
  try simp only [Act.put, List.setIfInBounds_toArray, List.set_cons_zero, List.set_cons_succ]
  refine lat_take 6 (v := ?_) rfl (by kernel_rfl) (by kernel_rfl) (by kernel_rfl) (by kernel_rfl) (fun _ _ _ h => h) (by rfl) ?_ (by assumption) ?_
  rotate_left
  · (intro y hSy; (try dsimp only at hSy); (try obtain ⟨q0, q1, q2⟩ := hSy); go_simp <;> with_reducible rfl)
  try simp only [Act.put, List.setIfInBounds_toArray, List.set_cons_zero, List.set_cons_succ]
  refine lat_take 7 (v := ?_) rfl (by kernel_rfl) (by kernel_rfl) (by kernel_rfl) (by kernel_rfl) (fun _ _ _ h => h) (by rfl) ?_ (by assumption) ?_
  rotate_left
  · (intro y hSy; (try dsimp only at hSy); (try obtain ⟨q0, q1, q2⟩ := hSy); go_simp <;> with_reducible rfl)
  try simp only [Act.put, List.setIfInBounds_toArray, List.set_cons_zero, List.set_cons_succ]
  refine lat_take 8 (v := ?_) rfl (by kernel_rfl) (by kernel_rfl) (by kernel_rfl) (by kernel_rfl) (fun _ _ _ h => h) (by rfl) ?_ (by assumption) ?_
  rotate_left
  · (intro y hSy; (try dsimp only at hSy); (try obtain ⟨q0, q1, q2⟩ := hSy); go_simp <;> with_reducible rfl)
  try simp only [Act.put, List.setIfInBounds_toArray, List.set_cons_zero, List.set_cons_succ]
  refine lat_take 9 (v := ?_) rfl (by kernel_rfl) (by kernel_rfl) (by kernel_rfl) (by kernel_rfl) (fun _ _ _ h => h) (by rfl) ?_ (by assumption) ?_
  rotate_left
  · (intro y hSy; (try dsimp only at hSy); (try obtain ⟨q0, q1, q2⟩ := hSy); go_simp <;> with_reducible rfl)
  try simp only [Act.put, List.setIfInBounds_toArray, List.set_cons_zero, List.set_cons_succ]
  refine lat_take 10 (v := ?_) rfl (by kernel_rfl) (by kernel_rfl) (by kernel_rfl) (by kernel_rfl) (fun _ _ _ h => h) (by rfl) ?_ (by assumption) ?_
  rotate_left
  · (intro y hSy; (try dsimp only at hSy); (try obtain ⟨q0, q1, q2⟩ := hSy); go_simp <;> with_reducible rfl)
  try simp only [Act.put, List.setIfInBounds_toArray, List.set_cons_zero, List.set_cons_succ]
  refine lat_one 11 rfl (by kernel_rfl) (by decide) (by rfl) (fun K hK => ?_)
  go_simp
  refine Calls.mono HC.out ?_
  rintro e w5 ⟨a5, k5, c5, rfl, hk5, hq5⟩
  have HQ5 : Hid (PnS w0 P (w5.setCell ⟨P, 0, none⟩ (.slice a5 k5 c5)) (oa st (some (lay 8 U))) (N + 8)) := hq5
  have HK5 : Hid (KeepT P w w5) := ((KeepT.of_below HBL.out).trans (KeepT.of_below (below_drew _))).trans (hk5 P)
  obtain ⟨d0, d1, e0, e1⟩ := pen_cells (pen_box HX3.out hk5)
  have hS5 : w5.cell? ⟨P, 0, none⟩ = some (.slice a3 k3 c3) ∧ w5.cell? ⟨w.heap.size, 1, none⟩ = some (.int .i64 (f : Int)) ∧ w5.cell? ⟨w.heap.size + 1, 4 + f, none⟩ = some (.int .i64 m) := ⟨d0, HS82.out w5 hk5, HS71.out w5 hk5⟩
  clear hq5 hk5
  try dsimp only
  refine hK.out _ _ hS5 (fun hH2 => ?_)
  clear hK
  try simp only [Act.put, List.setIfInBounds_toArray, List.set_cons_zero, List.set_cons_succ]
  refine lat_take 12 (v := ?_) rfl (by kernel_rfl) (by kernel_rfl) (by kernel_rfl) (by kernel_rfl) (fun _ _ _ h => h) (by rfl) ?_ (by assumption) ?_
  rotate_left
  · (intro y hSy; (try dsimp only at hSy); (try obtain ⟨q0, q1, q2⟩ := hSy); go_simp <;> with_reducible rfl)
  try simp only [Act.put, List.setIfInBounds_toArray, List.set_cons_zero, List.set_cons_succ]
  refine lat_take 13 (v := ?_) rfl (by kernel_rfl) (by kernel_rfl) (by kernel_rfl) (by kernel_rfl) (fun _ _ _ h => h) (by rfl) ?_ (by assumption) ?_
  rotate_left
  · (intro y hSy; (try dsimp only at hSy); (try obtain ⟨q0, q1, q2⟩ := hSy); go_simp <;> with_reducible rfl)
  try simp only [Act.put, List.setIfInBounds_toArray, List.set_cons_zero, List.set_cons_succ]
  refine lat_last 14 rfl (by kernel_rfl) (by decide) (by kernel_rfl) (by rfl) (fun K hK => ?_)
  go_simp
  try dsimp only
  refine hK.out _ _ ?_
  clear hK
  try simp only [Act.put, List.setIfInBounds_toArray, List.set_cons_zero, List.set_cons_succ]
  go_wp2_with fail
  go_end0
  exact ⟨rfl, HQ5.out, HK5.out.trans (KeepT.setCell _ _ _ _)⟩
/-- Only the fields of a row. -/
def bmix (b : Bd) (r : List Nat) : Bd := fun f => if f ∈ r then b f else fz
theorem mem_snoc {r : List Nat} {f g : Nat} : g ∈ r ++ [f] ↔ g ∈ r ∨ g = f := by simp
theorem box_keep' {x y : World} {B : Nat} {o : Obj} (h : x.heap[B]? = some o) (hb : Below x.heap.size x y) : y.heap[B]? = some o := (hb.block _ (Array.getElem?_eq_some_iff.1 h).1).trans h
theorem WBox.keep {w w' : World} {a : Option Addr} {r : List Nat} (h : WBox w a r) (hk : ∀ (g : Nat) (cs : Array Value), w.heap[g]? = some (Obj.cells cs 78 (0, 0)) → w'.heap[g]? = some (Obj.cells cs 78 (0, 0))) : WBox w' a r := by
  rcases h with e | ⟨g, cs, e, hx, hc⟩
  · exact .inl e
  · exact .inr ⟨g, cs, e, hk g cs hx, hc⟩
theorem lat_box {P : Program} {L : List Oper} {Q : Exit → Act → World → Prop} {md : Region.Mode} {S : World → Prop} {n : Nat} (i : Nat) {o : Oper} {r : List Oper} {f : Nat} {l : Array Bool} {a : Act} {w : World} (hi : L.drop i = o :: r) (hsel : Region.noSelect L.toArray = true)
    (hs : (Region.sinkB md L.toArray n && Region.chainB md L.toArray n && decide (n < L.toArray.size) && decide (i < n)) = true) (hf : Region.free md L.toArray l i = true) (hr : (Region.ready md L.toArray l).contains i = true)
    (ty : TypeId) (x : Operand) (ho : o.op = .load ty x) (b : Nat) (cs : Array Value) (hQ : ∀ c a w, Q (.panic c) (a.put o.dst (.agg cs)) w → Q (.panic c) a w) (hw : Region.wanted o (yielded L.toArray a.tmps) = true)
    (hx : a.eval x = .pointer (some ⟨b, 0, none⟩)) (t : TypeId) (d : TypeDesc) (hc : ∀ y, S y → y.heap[b]? = some (.cells cs t (0, 0))) (hu : P.underlying ty = some d) (hd : (match d with | .struct _ | .array _ _ => true | _ => false) = true) (hi2 : (P.info? ty).map (·.size) = some cs.size) (hS : S w)
    (h : LatI P md L.toArray Q S n f (l.setIfInBounds i true) (a.put o.dst (.agg cs)) w) : LatI P md L.toArray Q S n (f + 1) l a w :=
  LatI.take (lat_at hi) hsel hs hf hr hQ (.inl ⟨hw, fun y hy => by
    unfold execOp
    simp only [ho, hx, Instr.loadAt, Instr.sureAddr, Sem.run_bind, Sem.run_pure, Result.andThen_ok, run_loadVar_row y b t ty cs (0, 0) d (hc y hy) hu hd hi2]⟩) hS h
theorem encP_no {w w' : World} (h : Below w.heap.size w w') : EncP none w (.returned (.tuple #[.slice none 0 0, .int .i64 1])) w' := ⟨⟨_, _, rfl, (fun L e => by cases e), fun _ => ⟨rfl, rfl⟩⟩, h⟩
theorem encP_yes {w w' : World} {v : Value} {L : List Nat} (ho : w'.ownsRow w.heap.size 5 1 v L.length (cv L)) (hb : Byt L) (hl : L.length ≤ 1000000000000) (h : Below w.heap.size w w') : EncP (Option.some L) w (.returned (.tuple #[v, .int .i64 0])) w' := ⟨⟨_, _, rfl, (fun L' e => by injection e with e; subst e; exact ⟨rfl, ho, hb, hl⟩), fun e => by cases e⟩, h⟩
end Go.Proofs.YtaooidckmepdeaaGreatDoor
namespace Go.Proofs.YtaooidckmepdeaaGreatDoor
set_option linter.unusedSimpArgs false
set_option linter.unusedVariables false
open Go.RowKit
def z40 : Array Value := #[.int .i64 0, .int .i64 0, .int .i64 0, .int .i64 0, .int .i64 0, .int .i64 0, .slice none 0 0, .slice none 0 0, .slice none 0 0]
end Go.Proofs.YtaooidckmepdeaaGreatDoor
namespace Go.Proofs.YtaooidckmepdeaaGreatDoor
set_option linter.unusedSimpArgs false
set_option linter.unusedVariables false
open Go.RowKit
/-- No rows in it. -/
theorem bdok_plain {b : Bd} (w : World) (ht : Tab w) (h11 : (b 11).rs = []) (h17 : (b 17).nm = []) (h18 : (b 18).ct = []) (h19 : (b 19).bs = []) (ht2 : ∀ f, (b f).t.size ≤ 9223372036854775807) (hf : In64 (b 7).n) : BdOk w b (ptR none 0) := by
  refine ⟨ht, ?_, ?_, ?_, ⟨?_, ?_⟩, ?_, ?_, ?_, ?_, ?_, ?_, ?_, ht2, hf⟩
  · intro i hi; rw [h11] at hi; cases hi
  · intro i hi; rw [h17] at hi; cases hi
  · intro i hi; rw [h18] at hi; cases hi
  · intro i hi; cases hi
  · intro i hi; cases hi
  · rw [h19]; rfl
  · rw [h11]; decide
  · rw [h17]; decide
  · rw [h18]; decide
  · exact Nat.zero_le _
  · intro i hi; rw [h11] at hi; cases hi
  · intro i hi; rw [h17] at hi; cases hi
def bA : Bd := setB bdz 0 (vt ⟨#[97]⟩)
theorem vb_setT {t : ByteArray} : VB (setB bdz 0 (vt t)) := by
  refine ⟨fun f hf => ?_, fun f hf => ?_⟩
  · by_cases e : f = 0
    · subst e; simp [setB, kd, VK, vt]
    · have : setB bdz 0 (vt t) f = fz := by simp [setB, e, bdz]
      rw [this]
      rcases kd_cases f with q | q | q | q | q | q | q <;> rw [q] <;> simp [VK, fz, vn, vt, vr', vm, vc, vb, In64]
  · have e : f ≠ 0 := by omega
    simp [setB, e, bdz]
theorem bA_q : RqB bA false := ⟨vb_setT, rfl, rfl, rfl, rfl, rfl, rfl⟩
theorem bA_e : reqE 2 7 bA = some [2, 0, 0, 0, 7, 0, 1, 97] := by decide +kernel
theorem two_no : reqP [2] = none := by
  cases h : reqP [2] with
  | none => rfl
  | some x =>
    have : (reqP [2]).isNone = true := by decide +kernel
    rw [h] at this
    cases this
theorem EncP.some {L : List Nat} {w w' : World} {e : Ending} (h : EncP (some L) w e w') : ∃ a c, e = .returned (.tuple #[.slice a L.length c, .int .i64 0]) ∧ Row w' a L ∧ (a = none → c = 0) ∧ L.length ≤ c ∧ Below w.heap.size w w' := by
  obtain ⟨⟨v, z, rfl, hv, _⟩, hb⟩ := h
  obtain ⟨rfl, ho, hy, _⟩ := hv L rfl
  obtain ⟨a, c, rfl, hr, hn⟩ := owns_sl ho (lt_mem hy)
  refine ⟨a, c, rfl, hr, hn, ?_, hb⟩
  rcases ho.2 with ⟨e, h0⟩ | ⟨g, cap, cur, e, hB, hg, hle, _⟩
  · injection e; omega
  · injection e with e1 e2 e3; omega
end Go.Proofs.YtaooidckmepdeaaGreatDoor
namespace Go.Proofs.YtaooidckmepdeaaGreatDoor
set_option linter.unusedSimpArgs false
set_option linter.unusedVariables false
open Go.RowKit
theorem below_drewN {B : Nat} {a w : World} (h : Below B a w) (n : Nat) : Below B a (w.drewN n) := by
  induction n with
  | zero => exact h
  | succ k ih => exact ih.drew
set_option maxHeartbeats 400000 in
set_option maxRecDepth 100000 in
theorem aw_q : ∀ x, Tab x → Calls Tryz.prog 16 #[.agg #[.int .i64 2, .int .i64 7, .string ⟨#[97]⟩, .int .i64 0, .int .i64 0, .int .i64 0, .int .i64 0, .int .i64 0, .bool false, .int .i64 0, .int .i64 0, .int .i64 0, .slice none 0 0, .int .i64 0, .int .i64 0, .int .i64 0, .string ⟨#[]⟩]] x fun e w' => ∃ a c, e = .returned (.tuple #[.slice a 8 c, .int .i64 0]) ∧ Row w' a [2, 0, 0, 0, 7, 0, 1, 97] ∧ Below x.heap.size x w' := fun x hx => by
    have q := request_any 2 7 bA false none 0 x (by unfold In64; decide) (by unfold In64; decide) bA_q (bdok_plain x hx rfl rfl rfl rfl (fun f => by unfold bA setB bdz; split <;> decide) (by unfold In64; decide))
    rw [bA_e] at q
    refine Calls.mono q ?_
    intro e w' h
    obtain ⟨a, c, e1, r, _, _, b⟩ := EncP.some h
    exact ⟨a, c, e1, r, b⟩
set_option maxHeartbeats 400000 in
set_option maxRecDepth 100000 in
theorem aw_p : ∀ y, Tab y → Calls Tryz.prog 6 #[.slice (some ⟨y.heap.size, 0, none⟩) 1 1] (y.alloc (.cells #[.int .u8 2] 5)) fun e w' => e = .returned (.tuple #[.agg #[.int .i64 0, .int .i64 0, .string ⟨#[]⟩, .int .i64 0, .int .i64 0, .int .i64 0, .int .i64 0, .int .i64 0, .bool false, .int .i64 0, .int .i64 0, .int .i64 0, .slice none 0 0, .int .i64 0, .int .i64 0, .int .i64 0, .string ⟨#[]⟩], .int .i64 13]) ∧ Below y.heap.size y w' := fun y hy => by
    have q := parseQ_any (y.alloc (.cells #[.int .u8 2] 5)) (some ⟨y.heap.size, 0, none⟩) 1 [2] (hy.below (below_box _)) (head_row y 2 (by decide)).1 (by decide) (by decide) (fun e => by cases e) (by decide)
    rw [two_no] at q
    refine Calls.mono q ?_
    rintro e w' ⟨hb, h1, _⟩
    exact ⟨h1 rfl, (below_box _).trans (hb.mono (by simp))⟩
set_option maxHeartbeats 400000 in
set_option maxRecDepth 100000 in
theorem aw_b : ∀ y a c, Row y a [2, 0, 0, 0, 7, 0, 1, 97] → Calls Tryz.prog 15 #[.slice a 8 c, .slice (some ⟨y.heap.size, 0, none⟩) 8 8] (y.alloc (.cells #[.int .u8 2, .int .u8 0, .int .u8 0, .int .u8 0, .int .u8 7, .int .u8 0, .int .u8 1, .int .u8 97] 5)) fun e w' => e = .returned (.bool true) ∧ Below y.heap.size y w' := fun y a c hr => by
    have q := bytes_any a c [2, 0, 0, 0, 7, 0, 1, 97] (some ⟨y.heap.size, 0, none⟩) 8 [2, 0, 0, 0, 7, 0, 1, 97] (y.alloc (.cells #[.int .u8 2, .int .u8 0, .int .u8 0, .int .u8 0, .int .u8 7, .int .u8 0, .int .u8 1, .int .u8 97] 5)) (hr.below (below_box _)) (row_alloc y [2, 0, 0, 0, 7, 0, 1, 97] (lt_mem (by decide))) (by decide) (by decide)
    refine Calls.mono q ?_
    rintro e w' h
    exact (by obtain ⟨e1, n, rfl⟩ := h; exact ⟨by rw [e1]; rfl, below_drewN (below_box _) n⟩)
set_option maxHeartbeats 400000 in
set_option maxRecDepth 100000 in
theorem awake_any (w : World) (ht : Tab w) : Calls Tryz.prog 5 #[] w fun e w' => e = .returned (.bool true) ∧ Below w.heap.size w w' := by
  have HQ : Hid (∀ x, Tab x → Calls Tryz.prog 16 #[.agg #[.int .i64 2, .int .i64 7, .string ⟨#[97]⟩, .int .i64 0, .int .i64 0, .int .i64 0, .int .i64 0, .int .i64 0, .bool false, .int .i64 0, .int .i64 0, .int .i64 0, .slice none 0 0, .int .i64 0, .int .i64 0, .int .i64 0, .string ⟨#[]⟩]] x fun e w' => ∃ a c, e = .returned (.tuple #[.slice a 8 c, .int .i64 0]) ∧ Row w' a [2, 0, 0, 0, 7, 0, 1, 97] ∧ Below x.heap.size x w') := aw_q
  have HP : Hid (∀ y, Tab y → Calls Tryz.prog 6 #[.slice (some ⟨y.heap.size, 0, none⟩) 1 1] (y.alloc (.cells #[.int .u8 2] 5)) fun e w' => e = .returned (.tuple #[.agg #[.int .i64 0, .int .i64 0, .string ⟨#[]⟩, .int .i64 0, .int .i64 0, .int .i64 0, .int .i64 0, .int .i64 0, .bool false, .int .i64 0, .int .i64 0, .int .i64 0, .slice none 0 0, .int .i64 0, .int .i64 0, .int .i64 0, .string ⟨#[]⟩], .int .i64 13]) ∧ Below y.heap.size y w') := aw_p
  have HB : Hid (∀ y a c, Row y a [2, 0, 0, 0, 7, 0, 1, 97] → Calls Tryz.prog 15 #[.slice a 8 c, .slice (some ⟨y.heap.size, 0, none⟩) 8 8] (y.alloc (.cells #[.int .u8 2, .int .u8 0, .int .u8 0, .int .u8 0, .int .u8 7, .int .u8 0, .int .u8 1, .int .u8 97] 5)) fun e w' => e = .returned (.bool true) ∧ Below y.heap.size y w') := aw_b
  obtain ⟨CZ, HCZ⟩ : ∃ CZ : Array Value, Hid (#[.int .i64 0, .int .i64 0, .string ⟨#[]⟩, .int .i64 0, .int .i64 0, .int .i64 0, .int .i64 0, .int .i64 0, .bool false, .int .i64 0, .int .i64 0, .int .i64 0, .slice none 0 0, .int .i64 0, .int .i64 0, .int .i64 0, .string ⟨#[]⟩] = CZ) := ⟨_, rfl⟩
  have HZ1 : Hid (CZ.size = 17) := by rw [← HCZ.out]; rfl
  have HZ2 : Hid (CZ.all (·.oneCell') = true) := by show _ = _; rw [← HCZ.out]; kernel_rfl
  rw [HCZ.out] at HP
  have HT : Hid (Tab w) := ht
  clear ht
  go_enter Tryz.func5, Tryz.ntmps5
  go_wp2_with (first
    | (go_at_call 16; refine (HQ.out _ HT.out).mono ?_; rintro e w1 ⟨a1, c1, rfl, hr1, hb1⟩; have HR1 : Hid (Row w1 a1 [2, 0, 0, 0, 7, 0, 1, 97]) := hr1; have HB1 : Hid (Below w.heap.size w w1) := hb1; have HT1 : Hid (Tab w1) := HT.out.below hb1; clear hr1 hb1)
    | (go_at_call 6; refine (HP.out _ HT1.out).mono ?_; rintro e w2 ⟨rfl, hb2⟩; have HR2 : Hid (Row w2 a1 [2, 0, 0, 0, 7, 0, 1, 97]) := HR1.out.below hb2; have HB2 : Hid (Below w.heap.size w w2) := HB1.out.trans (hb2.mono HB1.out.size); have tok2 : True := trivial; clear hb2)
    | (have _h := tok2; refine wpList_store_row rfl 28 _ _ rfl w2.heap.size CZ rfl rfl 28 #[.int .i64 0, .int .i64 0, .string ⟨#[]⟩, .int .i64 0, .int .i64 0, .int .i64 0, .int .i64 0, .int .i64 0, .bool false, .int .i64 0, .int .i64 0, .int .i64 0, .slice none 0 0, .int .i64 0, .int .i64 0, .int .i64 0, .string ⟨#[]⟩] (heap_alloc_new w2 _) (by rw [HZ1.out]; exact Tryz.info28) (by rw [HZ1.out]; rfl) HZ2.out ?_; obtain ⟨hb9, hl9⟩ := box_new w2 #[.int .i64 0, .int .i64 0, .string ⟨#[]⟩, .int .i64 0, .int .i64 0, .int .i64 0, .int .i64 0, .int .i64 0, .bool false, .int .i64 0, .int .i64 0, .int .i64 0, .slice none 0 0, .int .i64 0, .int .i64 0, .int .i64 0, .string ⟨#[]⟩] CZ 28; generalize World.setRow _ w2.heap.size CZ = w4 at *; have HR4 : Hid (Row w4 a1 [2, 0, 0, 0, 7, 0, 1, 97]) := HR2.out.below hl9; have HB4 : Hid (Below w.heap.size w w4) := HB2.out.trans (hl9.mono HB2.out.size); clear hb9 hl9 _h tok2)
    | (go_at_call 15; refine (HB.out _ _ _ HR4.out).mono ?_; rintro e w3 ⟨rfl, hb3⟩; have HB3 : Hid (Below w.heap.size w w3) := HB4.out.trans (hb3.mono HB4.out.size); clear hb3))
  go_ret
  exact ⟨rfl, HB3.out⟩
end Go.Proofs.YtaooidckmepdeaaGreatDoor
namespace Go.Proofs.YtaooidckmepdeaaGreatDoor
set_option linter.unusedSimpArgs false
set_option linter.unusedVariables false
open Go.RowKit
theorem EncP.none {w w' : World} {e : Ending} (h : EncP none w e w') : e = .returned (.tuple #[.slice none 0 0, .int .i64 1]) ∧ Below w.heap.size w w' := by
  obtain ⟨⟨v, z, rfl, _, hv⟩, hb⟩ := h
  obtain ⟨rfl, rfl⟩ := hv rfl
  exact ⟨rfl, hb⟩
/-- A row of bytes that may be read. -/
structure BOk (w : World) (a : Option Addr) (c : Nat) (L : List Nat) : Prop where
  row : Row w a L
  len : L.length ≤ c
  cap : c ≤ maxLen
  nil : a = none → c = 0
  big : L.length ≤ 1000000000000
theorem EncP.some2 {L : List Nat} {w w' : World} {e : Ending} (h : EncP (Option.some L) w e w') : ∃ a c, e = .returned (.tuple #[.slice a L.length c, .int .i64 0]) ∧ BOk w' a c L ∧ Below w.heap.size w w' := by
  obtain ⟨⟨v, z, rfl, hv, _⟩, hb⟩ := h
  obtain ⟨rfl, ho, hy, hbig⟩ := hv L rfl
  obtain ⟨a, c, rfl, hr, hn⟩ := owns_sl ho (lt_mem hy)
  have hc : L.length ≤ c ∧ c ≤ maxLen := by
    rcases ho.2 with ⟨e, h0⟩ | ⟨g, cap, cur, e, hB, hg, hle, hm, _⟩
    · injection e with e1 e2 e3; subst e3; exact ⟨by omega, by unfold maxLen; omega⟩
    · injection e with e1 e2 e3; subst e3; exact ⟨by omega, hm⟩
  exact ⟨a, c, rfl, ⟨hr, hc.1, hc.2, hn, hbig⟩, hb⟩
/-- A box of what came in, the first that is new. -/
structure BxW (w : World) (t : TypeId) (cs : Array Value) (x : World) : Prop where
  box : x.heap[w.heap.size]? = some (.cells cs t (0, 0))
  bel : Below w.heap.size w x
theorem BxW.new (w : World) (t : TypeId) (cs : Array Value) : BxW w t cs (w.alloc (.cells cs t)) := ⟨heap_alloc_new w _, below_box _⟩
theorem BxW.below {w x y : World} {t : TypeId} {cs : Array Value} (h : BxW w t cs x) (hb : Below x.heap.size x y) : BxW w t cs y :=
  ⟨(hb.block _ (Array.getElem?_eq_some_iff.1 h.box).1).trans h.box, h.bel.trans (hb.mono h.bel.size)⟩
end Go.Proofs.YtaooidckmepdeaaGreatDoor
namespace Go.Proofs.YtaooidckmepdeaaGreatDoor
set_option linter.unusedSimpArgs false
set_option linter.unusedVariables false
open Go.RowKit
/-- Two boxes, the first that are new. -/
structure Bx2 (w : World) (t : TypeId) (cs ds : Array Value) (x : World) : Prop where
  a : x.heap[w.heap.size]? = some (.cells cs t (0, 0))
  b : x.heap[w.heap.size + 1]? = some (.cells ds t (0, 0))
  bel : Below w.heap.size w x
theorem Bx2.new (w : World) (t : TypeId) (cs ds : Array Value) : Bx2 w t cs ds ((w.alloc (.cells cs t)).alloc (.cells ds t)) := by
  have b1 : Below w.heap.size w (w.alloc (.cells cs t)) := below_box _
  have b2 : Below (w.alloc (.cells cs t)).heap.size (w.alloc (.cells cs t)) ((w.alloc (.cells cs t)).alloc (.cells ds t)) := below_box _
  refine ⟨?_, ?_, b1.trans (b2.mono (by simp))⟩
  · rw [b2.block _ (by simp)]; exact heap_alloc_new w _
  · have := heap_alloc_new (w.alloc (.cells cs t)) (.cells ds t)
    simpa using this
def SameP (S : Prop) (w : World) (e : Ending) (w' : World) : Prop := (∃ r : Bool, e = .returned (.bool r) ∧ (r = true ↔ S)) ∧ Below w.heap.size w w'
theorem SameP.no {S : Prop} {w w' : World} (h : ¬ S) (hb : Below w.heap.size w w') : SameP S w (.returned (.bool false)) w' := ⟨⟨false, rfl, by simp [h]⟩, hb⟩
theorem SameP.yes {S : Prop} {w w' : World} (h : S) (hb : Below w.heap.size w w') : SameP S w (.returned (.bool true)) w' := ⟨⟨true, rfl, by simp [h]⟩, hb⟩
theorem toList_inj {a b : ByteArray} (h : a.toList = b.toList) : a = b := by
  rw [ByteArray.toList_eq, ByteArray.toList_eq] at h
  obtain ⟨⟨x⟩⟩ := a
  obtain ⟨⟨y⟩⟩ := b
  simpa using h
end Go.Proofs.YtaooidckmepdeaaGreatDoor
namespace Go.Proofs.YtaooidckmepdeaaGreatDoor
set_option linter.unusedSimpArgs false
set_option linter.unusedVariables false
open Go.RowKit
/-- A request as a value. -/
def QVal (w : World) (cs : Array Value) (k i : Int) (b : Bd) : Prop := ∃ ra rc, cs = rqc k i b ((b 7).n == 1) ra rc ∧ RRow w ra (b 11).rs
theorem QVal.below {w w' : World} {cs : Array Value} {k i : Int} {b : Bd} (h : QVal w cs k i b) (hb : Below w.heap.size w w') : QVal w' cs k i b := by
  obtain ⟨ra, rc, e, r⟩ := h
  exact ⟨ra, rc, e, r.below hb⟩
theorem QVal.size {w : World} {cs : Array Value} {k i : Int} {b : Bd} (h : QVal w cs k i b) : cs.size = 17 := by
  obtain ⟨ra, rc, rfl, r⟩ := h; rfl
theorem QVal.one {w : World} {cs : Array Value} {k i : Int} {b : Bd} (h : QVal w cs k i b) : cs.all (·.oneCell') = true := by
  obtain ⟨ra, rc, rfl, r⟩ := h; simp [rqc, Value.oneCell']
/-- A response as a value. -/
structure SRows (w : World) (b : Bd) (p : Pt) : Prop where
  z : p.ra = none ∧ p.rc = 0
  nm : SRow w p.na (b 17).nm
  ct : IRow w p.ca (b 18).ct
  bs : BRow w p.ba p.bs
  bb : p.bs.map (·.b) = (b 19).bs
theorem SRows.below {w w' : World} {b : Bd} {p : Pt} (h : SRows w b p) (hb : Below w.heap.size w w') : SRows w' b p :=
  ⟨h.z, h.nm.below hb, h.ct.below hb, ⟨h.bs.1.below hb, h.bs.2.below hb⟩, h.bb⟩
def SVal (w : World) (cs : Array Value) (k i d : Int) (b : Bd) : Prop := ∃ p, cs = rsc k i d b p ∧ SRows w b p
theorem SVal.below {w w' : World} {cs : Array Value} {k i d : Int} {b : Bd} (h : SVal w cs k i d b) (hb : Below w.heap.size w w') : SVal w' cs k i d b := by
  obtain ⟨p, e, r⟩ := h
  exact ⟨p, e, r.below hb⟩
theorem SVal.size {w : World} {cs : Array Value} {k i d : Int} {b : Bd} (h : SVal w cs k i d b) : cs.size = 9 := by
  obtain ⟨p, rfl, r⟩ := h; rfl
theorem SVal.one {w : World} {cs : Array Value} {k i d : Int} {b : Bd} (h : SVal w cs k i d b) : cs.all (·.oneCell') = true := by
  obtain ⟨p, rfl, r⟩ := h; simp [rsc, Value.oneCell']
theorem SRows.ok {w : World} {b : Bd} {p : Pt} (hr : SRows w b p) (ht : Tab w) (hz : ∀ f, f ≤ 14 → f ≠ 12 → b f = fz) (hb : VB b) (h1 : (b 17).nm.length ≤ 100000) (h2 : (b 18).ct.length ≤ 100000) (h3 : (b 19).bs.length ≤ 100000) (h4 : ∀ x, x ∈ (b 17).nm → x.size ≤ 9223372036854775807) : BdOk w b p := by
  have z11 : (b 11).rs = [] := by rw [hz 11 (by decide) (by decide)]; rfl
  obtain ⟨_, _, _, _, _, _, pt⟩ := hb.parts
  refine ⟨ht, ?_, hr.nm, hr.ct, hr.bs, hr.bb, ?_, h1, h2, ?_, ?_, fun j hj => ?_, fun f => ?_, ?_⟩
  · intro i hi; rw [z11] at hi; cases hi
  · rw [z11]; decide
  · have := congrArg List.length hr.bb; rw [List.length_map] at this; omega
  · intro i hi; rw [z11] at hi; cases hi
  · have hm : (b 17).nm.getD j ⟨#[]⟩ ∈ (b 17).nm := by rw [List.getD_eq_getElem?_getD, List.getElem?_eq_getElem hj]; exact List.getElem_mem hj
    exact h4 _ hm
  · by_cases h2 : 2 ≤ f
    · rw [pt f h2]; decide
    · rw [hz f (by omega) (by omega)]; decide
  · rw [hz 7 (by decide) (by decide)]; unfold In64; decide
theorem bytes_yes (x : World) (p q : Option Addr) (k j : Nat) (l : List Nat) (h1 : Row x p l) (h2 : Row x q l) (hl : l.length ≤ 1000000000000) : Calls Tryz.prog 15 #[.slice p l.length k, .slice q l.length j] x fun e w' => e = .returned (.bool true) ∧ Below x.heap.size x w' := by
  have h := bytes_any p k l q j l x h1 h2 (by unfold maxLen; omega) (by unfold maxLen; omega)
  rw [decide_eq_true rfl] at h
  refine Calls.mono h ?_
  rintro e w' ⟨rfl, n, rfl⟩
  exact ⟨rfl, below_drewN (Below.refl _ _) n⟩
end Go.Proofs.YtaooidckmepdeaaGreatDoor
namespace Go.Proofs.YtaooidckmepdeaaGreatDoor
set_option linter.unusedSimpArgs false
set_option linter.unusedVariables false
open Go.RowKit
theorem drewN2 (w : World) (n m : Nat) : (w.drewN n).drewN m = w.drewN (n + m) := by simp
theorem map_getD {ss ss' : List Bs} (e : ss.map (·.b) = ss'.map (·.b)) : ∀ i, i < ss.length → (ss.getD i bsz).b = (ss'.getD i bsz).b := by
  intro i hi
  have hl : ss.length = ss'.length := by have := congrArg List.length e; simpa using this
  have h1 : (ss.map (·.b))[i]? = (ss'.map (·.b))[i]? := by rw [e]
  rw [List.getElem?_map, List.getElem?_map, List.getElem?_eq_getElem hi, List.getElem?_eq_getElem (by omega)] at h1
  rw [List.getD_eq_getElem?_getD, List.getD_eq_getElem?_getD, List.getElem?_eq_getElem hi, List.getElem?_eq_getElem (by omega)]
  simpa using h1
set_option maxHeartbeats 1600000 in
set_option maxRecDepth 100000 in
theorem batches_yes (a a' : Option Addr) (ca ca' : Nat) (ss ss' : List Bs) (w : World) (h : BRow w a ss) (h' : BRow w a' ss') (e : ss.map (·.b) = ss'.map (·.b)) (hl : ss.length ≤ maxLen) :
    Calls Tryz.prog 28 #[.slice a ss.length ca, .slice a' ss'.length ca'] w fun e w' => e = .returned (.bool true) ∧ ∃ n, w' = w.drewN n := by
  have hlen : ss'.length = ss.length := by have := congrArg List.length e; simpa using this.symm
  have HE : Hid (∀ i, i < ss.length → (ss.getD i bsz).b = (ss'.getD i bsz).b) := map_getD e
  have HL : Hid (ss'.length = ss.length) := hlen
  have HB : Hid (BRow w a ss) := h
  have HB' : Hid (BRow w a' ss') := h'
  rw [hlen]
  clear h h' e hlen
  unfold maxLen at hl
  go_enter Tryz.func28, Tryz.ntmps28
  simp only [List.append]
  go_wp2
  go_loopw [5] (fun i wr => ∃ k n : Nat, k ≤ ss.length ∧ i = .int .i64 k ∧ wr = w.drewN n) (fun i _ => ss.length - (iof i).toNat)
  case atStart => exact ⟨0, 0, by omega, rfl, rfl⟩
  case round =>
    obtain ⟨k, n, hk, rfl, rfl⟩ := hrel
    by_cases hlt : k < ss.length
    · have hltI : (k : Int) < (ss.length : Int) := by omega
      obtain ⟨g1, o1, rfl, y0, y1, y2, y3, y4⟩ := HB.out.1 k hlt
      obtain ⟨g2, o2, rfl, z0, z1, z2, z3, z4⟩ := HB'.out.1 k (by rw [HL.out]; exact hlt)
      obtain ⟨r1, _, l1, _⟩ := HB.out.2 k hlt
      obtain ⟨r2, _, l2, _⟩ := HB'.out.2 k (by rw [HL.out]; exact hlt)
      rw [← HE.out k hlt] at z0 z1 z2 z3 z4 r2 l2
      generalize (ss.getD k bsz).b = bb at *
      generalize (ss.getD k bsz).a = a1 at *
      generalize (ss.getD k bsz).cap = c1 at *
      generalize (ss'.getD k bsz).a = a2 at *
      generalize (ss'.getD k bsz).cap = c2 at *
      obtain ⟨base, span, prod, seq, rs⟩ := bb
      simp only at y0 y1 y2 y3 y4 z0 z1 z2 z3 z4 r1 r2 l1
      have HR1 : Hid (RRow w a1 rs) := r1
      have HR2 : Hid (RRow w a2 rs) := r2
      unfold maxLen at l1
      clear r1 r2 l2 HB HB' HE
      go_wp2
      go_quiet (fail)
      go_wp2
      go_loopw [6] (fun i wr => ∃ j m : Nat, j ≤ rs.length ∧ i = .int .i64 j ∧ wr = w.drewN m) (fun i _ => rs.length - (iof i).toNat)
      case atStart => exact ⟨0, n + nq, by omega, rfl, drewN2 _ _ _⟩
      case round =>
        obtain ⟨j, m, hj, rfl, rfl⟩ := hrel
        by_cases hjt : j < rs.length
        · have hjI : (j : Int) < (rs.length : Int) := by omega
          obtain ⟨b1, p1, rfl, u0, u1, u2, u3, u4, u5⟩ := HR1.out j hjt
          obtain ⟨b2, p2, rfl, v0, v1, v2, v3, v4, v5⟩ := HR2.out j hjt
          clear HR1 HR2
          generalize rs.getD j rz = r at *
          obtain ⟨hk', kk, hv, v, t, o⟩ := r
          simp only at u0 u1 u2 u3 u4 u5 v0 v1 v2 v3 v4 v5
          go_wp2
          go_quiet (fail)
          go_wp2
          exact ⟨⟨j + 1, m + nq, by omega, by go_num, rfl⟩, by simp [iof]; omega⟩
        · go_wp2
          exact ⟨⟨k + 1, m, by omega, by go_num, rfl⟩, by simp [iof]; omega⟩
    · go_wp2
      go_ret
      exact ⟨rfl, n, rfl⟩
set_option maxRecDepth 100000 in
theorem batches_no (a a' : Option Addr) (ca ca' n n' : Nat) (w : World) (h : ((n : Int) != (n' : Int)) = true) :
    Calls Tryz.prog 28 #[.slice a n ca, .slice a' n' ca'] w fun e w' => e = .returned (.bool false) ∧ ∃ n, w' = w.drewN n := by
  go_enter Tryz.func28, Tryz.ntmps28
  simp only [List.append]
  go_wp2
  go_ret
  exact ⟨rfl, 0, rfl⟩
/-- The same in all fields. -/
def SS (k i d : Int) (b : Bd) (k' i' d' : Int) (b' : Bd) : Prop :=
  k = k' ∧ i = i' ∧ d = d' ∧ (b 12).n = (b' 12).n ∧ (b 15).n = (b' 15).n ∧ (b 16).n = (b' 16).n ∧ (b 17).nm = (b' 17).nm ∧ (b 18).ct = (b' 18).ct ∧ (b 19).bs = (b' 19).bs
set_option maxHeartbeats 4000000 in
set_option maxRecDepth 100000 in
theorem sameS_in (k i d k' i' d' n12 n15 n16 m12 m15 m16 : Int) (cs ds : Array Value) (na na' ca ca' ba ba' : Option Addr) (nc nc' cc cc' bc bc' N N' : Nat) (nm nm' : List ByteArray) (ct ct' : List Int) (R : Bool) (S : Prop) (w : World)
    (HB : Hid (Bx2 w 38 cs ds ((w.alloc (.cells cs 38)).alloc (.cells ds 38))))
    (HC : Hid (cs = #[.int .i64 k, .int .i64 i, .int .i64 d, .int .i64 n12, .int .i64 n15, .int .i64 n16, .slice na nm.length nc, .slice ca ct.length cc, .slice ba N bc]))
    (HD : Hid (ds = #[.int .i64 k', .int .i64 i', .int .i64 d', .int .i64 m12, .int .i64 m15, .int .i64 m16, .slice na' nm'.length nc', .slice ca' ct'.length cc', .slice ba' N' bc']))
    (HN : Hid (SRow ((w.alloc (.cells cs 38)).alloc (.cells ds 38)) na nm ∧ SRow ((w.alloc (.cells cs 38)).alloc (.cells ds 38)) na' nm')) (HI : Hid (IRow ((w.alloc (.cells cs 38)).alloc (.cells ds 38)) ca ct ∧ IRow ((w.alloc (.cells cs 38)).alloc (.cells ds 38)) ca' ct'))
    (HNE : Hid (nm.length = nm'.length → nm = nm')) (HIE : Hid (ct.length = ct'.length → ct = ct')) (hn : nm.length ≤ 9223372036854775807) (hi : ct.length ≤ 9223372036854775807)
    (HR : Hid (∀ x, Below w.heap.size w x → Calls Tryz.prog 28 #[.slice ba N bc, .slice ba' N' bc'] x fun e w' => e = .returned (.bool R) ∧ ∃ n, w' = x.drewN n))
    (HS : Hid (S ↔ (k = k' ∧ i = i' ∧ d = d' ∧ n12 = m12 ∧ n15 = m15 ∧ n16 = m16 ∧ nm = nm' ∧ ct = ct' ∧ R = true))) :
    Calls Tryz.prog 11 #[.agg cs, .agg ds] w (SameP S w) := by
  have c : ∀ j, ((w.alloc (.cells cs 38)).alloc (.cells ds 38)).cell? ⟨w.heap.size, j, none⟩ = cs[j]? := fun j => (box_at HB.out.a j).1
  have dd : ∀ j, ((w.alloc (.cells cs 38)).alloc (.cells ds 38)).cell? ⟨w.heap.size + 1, j, none⟩ = ds[j]? := fun j => (box_at HB.out.b j).1
  have c0 := c 0
  have c1 := c 1
  have c2 := c 2
  have c3 := c 3
  have c4 := c 4
  have c5 := c 5
  have c6 := c 6
  have c7 := c 7
  have c8 := c 8
  have d0 := dd 0
  have d1 := dd 1
  have d2 := dd 2
  have d3 := dd 3
  have d4 := dd 4
  have d5 := dd 5
  have d6 := dd 6
  have d7 := dd 7
  have d8 := dd 8
  have c9 : w.heap.size < ((w.alloc (.cells cs 38)).alloc (.cells ds 38)).heap.size := (Array.getElem?_eq_some_iff.1 HB.out.a).1
  have d9 : w.heap.size + 1 < ((w.alloc (.cells cs 38)).alloc (.cells ds 38)).heap.size := (Array.getElem?_eq_some_iff.1 HB.out.b).1
  clear c dd
  have e0 : cs[0]? = some (.int .i64 k) ∧ cs[1]? = some (.int .i64 i) ∧ cs[2]? = some (.int .i64 d) ∧ cs[3]? = some (.int .i64 n12) ∧ cs[4]? = some (.int .i64 n15) ∧ cs[5]? = some (.int .i64 n16) ∧ cs[6]? = some (.slice na nm.length nc) ∧ cs[7]? = some (.slice ca ct.length cc) ∧ cs[8]? = some (.slice ba N bc) := by rw [HC.out]; exact ⟨rfl, rfl, rfl, rfl, rfl, rfl, rfl, rfl, rfl⟩
  have f0 : ds[0]? = some (.int .i64 k') ∧ ds[1]? = some (.int .i64 i') ∧ ds[2]? = some (.int .i64 d') ∧ ds[3]? = some (.int .i64 m12) ∧ ds[4]? = some (.int .i64 m15) ∧ ds[5]? = some (.int .i64 m16) ∧ ds[6]? = some (.slice na' nm'.length nc') ∧ ds[7]? = some (.slice ca' ct'.length cc') ∧ ds[8]? = some (.slice ba' N' bc') := by rw [HD.out]; exact ⟨rfl, rfl, rfl, rfl, rfl, rfl, rfl, rfl, rfl⟩
  obtain ⟨g0, g1, g2, g3, g4, g5, g6, g7, g8⟩ := e0
  rw [g0] at c0; rw [g1] at c1; rw [g2] at c2; rw [g3] at c3; rw [g4] at c4; rw [g5] at c5; rw [g6] at c6; rw [g7] at c7; rw [g8] at c8
  clear g0 g1 g2 g3 g4 g5 g6 g7 g8
  obtain ⟨g0, g1, g2, g3, g4, g5, g6, g7, g8⟩ := f0
  rw [g0] at d0; rw [g1] at d1; rw [g2] at d2; rw [g3] at d3; rw [g4] at d4; rw [g5] at d5; rw [g6] at d6; rw [g7] at d7; rw [g8] at d8
  clear g0 g1 g2 g3 g4 g5 g6 g7 g8 HC HD
  have HBB : Hid (Below w.heap.size w ((w.alloc (.cells cs 38)).alloc (.cells ds 38))) := HB.out.bel
  clear HB
  go_enter Tryz.func11, Tryz.ntmps11
  simp only [List.append]
  go_wp2_with (go_at_call 28; refine (HR.out _ HBB.out).mono ?_; rintro e w1 ⟨rfl, nn, rfl⟩)
  all_goals (try (go_ret; exact SameP.no (fun q => by
    obtain ⟨q0, q1, q2, q3, q4, q5, q6, q7, q8⟩ := HS.out.1 q
    first
    | contradiction
    | exact absurd (congrArg (fun l : List ByteArray => (l.length : Int)) q6) (by assumption)
    | exact absurd (congrArg (fun l : List Int => (l.length : Int)) q7) (by assumption)
    | (have hz : (!R) = true := by assumption
       rw [q8] at hz; cases hz)) (by first | exact HBB.out | exact below_drewN HBB.out _)))
  have hn1 : (nm.length : Int) = (nm'.length : Int) := by assumption
  have hc1 : (ct.length : Int) = (ct'.length : Int) := by assumption
  have hR1 : (!R) = false := by assumption
  have hen : nm = nm' := HNE.out (by omega)
  have hec : ct = ct' := HIE.out (by omega)
  have HST : Hid S := HS.out.2 ⟨by assumption, by assumption, by assumption, by assumption, by assumption, by assumption, hen, hec, by simpa using hR1⟩
  have hRt : R = true := by simpa using hR1
  clear hn1 hc1 hR1 HNE HIE HS c0 c1 c2 c3 c4 c5 c8 d0 d1 d2 d3 d4 d5 d8
  have s1 : k = k' := by assumption
  have s2 : i = i' := by assumption
  have s3 : d = d' := by assumption
  have s4 : n12 = m12 := by assumption
  have s5 : n15 = m15 := by assumption
  have s6 : n16 = m16 := by assumption
  subst s1 s2 s3 s4 s5 s6
  subst hen hec hRt
  simp only [Bool.not_true]
  generalize ((w.alloc (.cells cs 38)).alloc (.cells ds 38)) = y at *
  go_loopw [5] (fun iv wr => ∃ kk n : Nat, kk ≤ nm.length ∧ iv = .int .i64 kk ∧ wr = y.drewN n) (fun iv _ => nm.length - (iof iv).toNat)
  case atStart => exact ⟨0, _, by omega, rfl, rfl⟩
  case round =>
    obtain ⟨kk, n, hk, rfl, rfl⟩ := hrel
    by_cases hlt : kk < nm.length
    · have hltI : (kk : Int) < (nm.length : Int) := by omega
      obtain ⟨b1, o1, rfl, y0⟩ := HN.out.1 kk hlt
      obtain ⟨b2, o2, rfl, z0⟩ := HN.out.2 kk hlt
      clear HN
      generalize nm.getD kk ⟨#[]⟩ = r at *
      go_wp2
      go_quiet (fail)
      go_wp2
      exact ⟨⟨kk + 1, n + nq, by omega, by go_num, rfl⟩, by simp [iof]; omega⟩
    · go_wp2
      go_loopw [6] (fun iv wr => ∃ kk n : Nat, kk ≤ ct.length ∧ iv = .int .i64 kk ∧ wr = y.drewN n) (fun iv _ => ct.length - (iof iv).toNat)
      case atStart => exact ⟨0, _, by omega, rfl, rfl⟩
      case round =>
        obtain ⟨kk, n, hk, rfl, rfl⟩ := hrel
        by_cases hlt : kk < ct.length
        · have hltI : (kk : Int) < (ct.length : Int) := by omega
          obtain ⟨b1, o1, rfl, y0⟩ := HI.out.1 kk hlt
          obtain ⟨b2, o2, rfl, z0⟩ := HI.out.2 kk hlt
          clear HI
          generalize ct.getD kk 0 = r at *
          go_wp2
          go_quiet (fail)
          go_wp2
          exact ⟨⟨kk + 1, n + nq, by omega, by go_num, rfl⟩, by simp [iof]; omega⟩
        · go_wp2
          go_ret
          exact SameP.yes HST.out (below_drewN HBB.out n)
theorem sameS_any (k i d k' i' d' : Int) (b b' : Bd) (p p' : Pt) (w : World) (hs : SRows w b p) (hs' : SRows w b' p')
    (hn : (b 17).nm.length = (b' 17).nm.length → (b 17).nm = (b' 17).nm) (hc : (b 18).ct.length = (b' 18).ct.length → (b 18).ct = (b' 18).ct) (hb : (b 19).bs.length = (b' 19).bs.length → (b 19).bs = (b' 19).bs)
    (l1 : (b 17).nm.length ≤ maxLen) (l2 : (b 18).ct.length ≤ maxLen) (l3 : (b 19).bs.length ≤ maxLen) :
    Calls Tryz.prog 11 #[.agg (rsc k i d b p), .agg (rsc k' i' d' b' p')] w (SameP (SS k i d b k' i' d' b') w) := by
  have HB : Hid (Bx2 w 38 (rsc k i d b p) (rsc k' i' d' b' p') ((w.alloc (.cells (rsc k i d b p) 38)).alloc (.cells (rsc k' i' d' b' p') 38))) := Bx2.new _ _ _ _
  have e1 : p.bs.length = (b 19).bs.length := by rw [← hs.bb, List.length_map]
  have e2 : p'.bs.length = (b' 19).bs.length := by rw [← hs'.bb, List.length_map]
  have q := hs.below HB.out.bel
  have q' := hs'.below HB.out.bel
  refine sameS_in k i d k' i' d' _ _ _ _ _ _ _ _ p.na p'.na p.ca p'.ca p.ba p'.ba p.nc p'.nc p.cc p'.cc p.bc p'.bc p.bs.length p'.bs.length (b 17).nm (b' 17).nm (b 18).ct (b' 18).ct (decide ((b 19).bs.length = (b' 19).bs.length)) _ w HB rfl rfl ⟨q.nm, q'.nm⟩ ⟨q.ct, q'.ct⟩ hn hc l1 l2 ?_ ?_
  · intro x hx
    by_cases e : (b 19).bs.length = (b' 19).bs.length
    · rw [decide_eq_true e]
      refine batches_yes _ _ _ _ _ _ x ⟨(hs.below hx).bs.1, (hs.below hx).bs.2⟩ ⟨(hs'.below hx).bs.1, (hs'.below hx).bs.2⟩ ?_ (by omega)
      rw [hs.bb, hs'.bb]; exact hb e
    · rw [decide_eq_false e]
      refine batches_no _ _ _ _ _ _ x ?_
      rw [e1, e2, bne_iff_ne]
      omega
  · show SS k i d b k' i' d' b' ↔ _
    unfold SS
    rw [decide_eq_true_eq]
    constructor
    · rintro ⟨h1, h2, h3, h4, h5, h6, h7, h8, h9⟩; exact ⟨h1, h2, h3, h4, h5, h6, h7, h8, by rw [h9]⟩
    · rintro ⟨h1, h2, h3, h4, h5, h6, h7, h8, h9⟩; exact ⟨h1, h2, h3, h4, h5, h6, h7, h8, hb h9⟩
end Go.Proofs.YtaooidckmepdeaaGreatDoor
namespace Go.Proofs.YtaooidckmepdeaaGreatDoor
set_option linter.unusedSimpArgs false
set_option linter.unusedVariables false
open Go.RowKit
/-- The bag of a response. -/
def gba (k i : Int) (b : Bd) (p : Pt) : Array Value := gbc k i (fun _ => ⟨#[]⟩) (fun f => (b f).n) false (.slice none 0 0) (.slice p.ba p.bs.length p.bc) (.slice p.na (b 17).nm.length p.nc) (.slice p.ca (b 18).ct.length p.cc)
/-- Where the rows of the fields of a row lie. -/
def pmix (p : Pt) (r : List Nat) : Pt := ⟨p.ra, p.rc, if 17 ∈ r then p.na else none, if 17 ∈ r then p.nc else 0, if 18 ∈ r then p.ca else none, if 18 ∈ r then p.cc else 0, if 19 ∈ r then p.ba else none, if 19 ∈ r then p.bc else 0, if 19 ∈ r then p.bs else []⟩
/-- The response of the fields of a row. -/
def rsm (k i d : Int) (b : Bd) (p : Pt) (r : List Nat) : Array Value := rsc k i d (bmix b r) (pmix p r)
theorem rsm_nil (k i d : Int) (b : Bd) (p : Pt) : rsm k i d b p [] = #[.int .i64 k, .int .i64 i, .int .i64 d, .int .i64 0, .int .i64 0, .int .i64 0, .slice none 0 0, .slice none 0 0, .slice none 0 0] := rfl
theorem rsm_12 (k i d : Int) (b : Bd) (p : Pt) (r : List Nat) : (rsm k i d b p r).setIfInBounds 3 (.int .i64 (b 12).n) = rsm k i d b p (r ++ [12]) := by
  simp [rsm, rsc, pmix, bmix, mem_snoc]
theorem rsm_15 (k i d : Int) (b : Bd) (p : Pt) (r : List Nat) : (rsm k i d b p r).setIfInBounds 4 (.int .i64 (b 15).n) = rsm k i d b p (r ++ [15]) := by
  simp [rsm, rsc, pmix, bmix, mem_snoc]
theorem rsm_16 (k i d : Int) (b : Bd) (p : Pt) (r : List Nat) : (rsm k i d b p r).setIfInBounds 5 (.int .i64 (b 16).n) = rsm k i d b p (r ++ [16]) := by
  simp [rsm, rsc, pmix, bmix, mem_snoc]
theorem rsm_17 (k i d : Int) (b : Bd) (p : Pt) (r : List Nat) : (rsm k i d b p r).setIfInBounds 6 (.slice p.na (b 17).nm.length p.nc) = rsm k i d b p (r ++ [17]) := by
  simp [rsm, rsc, pmix, bmix, mem_snoc]
theorem rsm_18 (k i d : Int) (b : Bd) (p : Pt) (r : List Nat) : (rsm k i d b p r).setIfInBounds 7 (.slice p.ca (b 18).ct.length p.cc) = rsm k i d b p (r ++ [18]) := by
  simp [rsm, rsc, pmix, bmix, mem_snoc]
theorem rsm_19 (k i d : Int) (b : Bd) (p : Pt) (r : List Nat) : (rsm k i d b p r).setIfInBounds 8 (.slice p.ba p.bs.length p.bc) = rsm k i d b p (r ++ [19]) := by
  simp [rsm, rsc, pmix, bmix, mem_snoc]
theorem mix_all' {b : Bd} {r : List Nat} (h : ∀ g, g ∉ r → b g = fz) : bmix b r = b := by
  funext g
  unfold bmix
  split
  · rfl
  · rename_i q; exact (h g q).symm
theorem mix_sameS {b : Bd} {r : List Nat} {k i d : Int} (hv : VB b) (hz : ∀ f, f ≤ 14 → f ≠ 12 → b f = fz) : SS k i d (bmix b r) k i d b ↔ moreB b r = false := by
  constructor
  · rintro ⟨_, _, _, n12, n15, n16, hnm, hct, hbs⟩
    apply more_yes
    intro g hg
    have e : bmix b r g = fz := by simp [bmix, hg]
    by_cases h20 : g < 20
    · refine (hasK_iff _ (kd_cases g) _ (hv.1 g h20)).1 ?_
      have nx : ∀ f, f ∉ r → (bmix b r f).n = (b f).n → hasK 0 (b f) = false := fun f h1 h2 => by
        have : bmix b r f = fz := by simp [bmix, h1]
        rw [this] at h2
        show (!((b f).n == 0)) = false
        rw [← h2]; rfl
      have zx : ∀ f, b f = fz → hasK (kd f) (b f) = false := fun f h1 => by
        rw [h1]; exact (hasK_iff _ (kd_cases f) _ (VK_fz f)).2 rfl
      by_cases hl : g ≤ 14 ∧ g ≠ 12
      · exact zx g (hz g hl.1 hl.2)
      · rcases (show g = 12 ∨ g = 15 ∨ g = 16 ∨ g = 17 ∨ g = 18 ∨ g = 19 by omega) with rfl | rfl | rfl | rfl | rfl | rfl
        · exact nx 12 hg n12
        · exact nx 15 hg n15
        · exact nx 16 hg n16
        · rw [e] at hnm
          show decide (0 < (b 17).nm.length) = false
          rw [← hnm]; rfl
        · rw [e] at hct
          show decide (0 < (b 18).ct.length) = false
          rw [← hct]; rfl
        · rw [e] at hbs
          show decide (0 < (b 19).bs.length) = false
          rw [← hbs]; rfl
    · exact hv.2 g (by omega)
  · intro hm
    rw [mix_all' (more_no hv hm)]
    exact ⟨rfl, rfl, rfl, rfl, rfl, rfl, rfl, rfl, rfl⟩
theorem SRows.mix {w : World} {b : Bd} {p : Pt} (r : List Nat) (h : SRows w b p) : SRows w (bmix b r) (pmix p r) := by
  refine ⟨h.z, ?_, ?_, ?_, ?_⟩
  · show SRow w (if 17 ∈ r then p.na else none) (if 17 ∈ r then b 17 else fz).nm
    by_cases q : 17 ∈ r
    · rw [if_pos q, if_pos q]; exact h.nm
    · rw [if_neg q, if_neg q]; intro j hj; cases hj
  · show IRow w (if 18 ∈ r then p.ca else none) (if 18 ∈ r then b 18 else fz).ct
    by_cases q : 18 ∈ r
    · rw [if_pos q, if_pos q]; exact h.ct
    · rw [if_neg q, if_neg q]; intro j hj; cases hj
  · show BRow w (if 19 ∈ r then p.ba else none) (if 19 ∈ r then p.bs else [])
    by_cases q : 19 ∈ r
    · rw [if_pos q, if_pos q]; exact h.bs
    · rw [if_neg q, if_neg q]; exact ⟨(fun j hj => by cases hj), (fun j hj => by cases hj)⟩
  · show (if 19 ∈ r then p.bs else []).map (·.b) = (if 19 ∈ r then b 19 else fz).bs
    by_cases q : 19 ∈ r
    · rw [if_pos q, if_pos q]; exact h.bb
    · rw [if_neg q, if_neg q]; rfl
theorem sameX_any (k i d : Int) (b : Bd) (p : Pt) (r : List Nat) (w : World) (h : SRows w b p) (hv : VB b) (hz : ∀ f, f ≤ 14 → f ≠ 12 → b f = fz) (l1 : (b 17).nm.length ≤ 300) (l2 : (b 18).ct.length ≤ 300) (l3 : (b 19).bs.length ≤ 300) :
    Calls Tryz.prog 11 #[.agg (rsm k i d b p r), .agg (rsc k i d b p)] w fun e w' => e = .returned (.bool (!(moreB b r))) ∧ Below w.heap.size w w' := by
  have cs : ∀ f, bmix b r f = b f ∨ bmix b r f = fz := fun f => by unfold bmix; split; exact .inl rfl; exact .inr rfl
  refine Calls.mono (sameS_any k i d k i d (bmix b r) b (pmix p r) p w (h.mix r) h ?_ ?_ ?_ ?_ ?_ ?_) ?_
  · intro q; rcases cs 17 with e | e
    · rw [e]
    · rw [e] at q ⊢; exact (List.eq_nil_of_length_eq_zero q.symm).symm
  · intro q; rcases cs 18 with e | e
    · rw [e]
    · rw [e] at q ⊢; exact (List.eq_nil_of_length_eq_zero q.symm).symm
  · intro q; rcases cs 19 with e | e
    · rw [e]
    · rw [e] at q ⊢; exact (List.eq_nil_of_length_eq_zero q.symm).symm
  · unfold maxLen; rcases cs 17 with e | e
    · rw [e]; omega
    · rw [e]; simp [fz]
  · unfold maxLen; rcases cs 18 with e | e
    · rw [e]; omega
    · rw [e]; simp [fz]
  · unfold maxLen; rcases cs 19 with e | e
    · rw [e]; omega
    · rw [e]; simp [fz]
  · rintro e w' ⟨⟨R, rfl, hR⟩, hb⟩
    refine ⟨?_, hb⟩
    have : R = !(moreB b r) := by
      rw [Bool.eq_iff_iff, hR, mix_sameS hv hz]
      simp
    rw [this]
theorem PnS.other38 {w0 x : World} {P X off : Nat} {st : Ls} {N : Nat} {v : Value} {cs : Array Value} (h : PnS w0 P x st N) (hne : P ≠ X) (hx : x.heap[X]? = some (.cells cs 38 (0, 0))) (hX : w0.heap.size ≤ X) : PnS w0 P (x.setCell ⟨X, off, none⟩ v) st N := by
  obtain ⟨u, l, hp, ho, r⟩ := h.ex
  exact ⟨⟨u, l, (heap_setCell_other x ⟨X, off, none⟩ P v hne).trans hp, own_setCell ho (own_box ho hx (by decide)), r⟩, h.bel.setCell (p := ⟨X, off, none⟩) hX _, h.low⟩
/-- The state of the document's Response: boxes of the response, of its bag, of the response of the row's fields; the row; the pen. -/
structure RPS (w : World) (X4 X5 P : Nat) (RS GF RJ : Array Value) (ga : Option Addr) (r : List Nat) (st : Ls) (N : Nat) (x : World) : Prop where
  h0 : x.heap[w.heap.size]? = some (.cells RS 38 (0, 0))
  h4 : x.heap[X4]? = some (.cells GF 73 (0, 0))
  h5 : x.heap[X5]? = some (.cells RJ 38 (0, 0))
  hr : WBox x ga r
  pen : PnS w P x st N
theorem RPS.pens {w x x' : World} {X4 X5 P : Nat} {RS GF RJ : Array Value} {ga : Option Addr} {r : List Nat} {st st' : Ls} {N N' : Nat} (h : RPS w X4 X5 P RS GF RJ ga r st N x) (hk : KeepT P x x') (hp : PnS w P x' st' N') : RPS w X4 X5 P RS GF RJ ga r st' N' x' := by
  obtain ⟨v, l, hx, _⟩ := h.pen.ex
  have ne : ∀ g cs t, t ≠ 99 → x.heap[g]? = some (.cells cs t (0, 0)) → g ≠ P := by
    rintro g cs t ht hg rfl
    rw [hx] at hg
    injection hg with hg
    injection hg with _ hg _
    exact ht hg.symm
  exact ⟨hk.box h.h0 (ne _ _ _ (by decide) h.h0) (by decide), hk.box h.h4 (ne _ _ _ (by decide) h.h4) (by decide), hk.box h.h5 (ne _ _ _ (by decide) h.h5) (by decide), WBox.keep h.hr (fun g cs hg => hk.box hg (ne _ _ _ (by decide) hg) (by decide)), hp⟩
theorem RPS.put {w x : World} {X4 X5 P : Nat} {RS GF RJ : Array Value} {ga : Option Addr} {r : List Nat} {st : Ls} {N : Nat} (h : RPS w X4 X5 P RS GF RJ ga r st N x) (hX : w.heap.size < X5) (off : Nat) (v : Value) : RPS w X4 X5 P RS GF (RJ.setIfInBounds off v) ga r st N (x.setCell ⟨X5, off, none⟩ v) := by
  have ne : ∀ g cs t, t ≠ 38 → x.heap[g]? = some (.cells cs t (0, 0)) → g ≠ X5 := by
    rintro g cs t ht hg rfl
    have := h.h5
    rw [hg] at this
    injection this with this
    injection this with _ this _
    exact ht this
  have hP : P ≠ X5 := by
    obtain ⟨u, l, hx, _⟩ := h.pen.ex
    exact ne _ _ _ (by decide) hx
  have oth : ∀ g, g ≠ X5 → (x.setCell ⟨X5, off, none⟩ v).heap[g]? = x.heap[g]? := fun g hg => heap_setCell_other x ⟨X5, off, none⟩ g v hg
  refine ⟨(oth _ (by omega)).trans h.h0, (oth _ (ne _ _ _ (by decide) h.h4)).trans h.h4, ?_, WBox.keep h.hr (fun g cs hg => (oth g (ne _ _ _ (by decide) hg)).trans hg), h.pen.other38 hP h.h5 (by omega)⟩
  rw [setCell_heap h.h5]
theorem RPS.below {w x x' : World} {X4 X5 P : Nat} {RS GF RJ : Array Value} {ga : Option Addr} {r : List Nat} {st : Ls} {N : Nat} (h : RPS w X4 X5 P RS GF RJ ga r st N x) (hb : Below x.heap.size x x') : RPS w X4 X5 P RS GF RJ ga r st N x' :=
  ⟨box_keep' h.h0 hb, box_keep' h.h4 hb, box_keep' h.h5 hb, WBox.keep h.hr (fun g cs hg => box_keep' hg hb), h.pen.below hb⟩
end Go.Proofs.YtaooidckmepdeaaGreatDoor
